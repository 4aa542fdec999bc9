/-
  Contracts of DigestHash: round, untouchedRow.
-/
import Derived.Test.YthfbpbibpgblaaaPp0
import Derived.Test.YthfbpbibpgblaaaPh00
import Derived.Test.YthfbpbibpgblaaaDm1
import Derived.Deep.QuietTactic
import Derived.BigQuiet
namespace Go.Proofs.Ythfbpbibpgblaaa
open Go.RowKit
set_option linter.unusedVariables false
set_option linter.unusedSimpArgs false

set_option maxRecDepth 100000 in
theorem round_ok (n : Int) (w : World) (hn : (Lit.int .i64 n).wf = true) :
    Calls Try.prog 6 #[.int .i64 n] w fun e w' => ∃ m : Nat, m < 32 ∧ e = .returned (.int .i64 m) ∧ w' = w := by
  have hb := bounds_i64 hn
  have ht : -32 < n.tmod 32 ∧ n.tmod 32 < 32 := by
    have := Int.tmod_lt_of_pos n (by omega : (0 : Int) < 32)
    have h2 := Int.lt_tmod_of_pos n (by omega : (0 : Int) < 32)
    exact ⟨h2, this⟩
  by_cases h : n.tmod 32 < 0
  · go_enter Try.func6, Try.ntmps6
    go_wp2
    go_ret
    exact ⟨(n.tmod 32 + 32).toNat, by omega, by simp; omega, rfl⟩
  · go_enter Try.func6, Try.ntmps6
    go_wp2
    go_ret
    exact ⟨(n.tmod 32).toNat, by omega, by simp; omega, rfl⟩

/-- A roomy row. -/
structure Rm where
  g : Nat
  ds : List UInt8
def rm0 : Rm := ⟨0, []⟩
def Rm.val (r : Rm) : Value := .slice (some ⟨r.g, 0, none⟩) r.ds.length (r.ds.length + 160)
def Rm.At (w : World) (r : Rm) : Prop := w.heap[r.g]? = some (.cells (bys (r.ds ++ marks 160)).toArray 5 (0, 0))
theorem Rm.At.lt {w : World} {r : Rm} (h : r.At w) : r.g < w.heap.size := (Array.getElem?_eq_some_iff.1 h).1

theorem row_sl {w : World} {g : Nat} {L : List UInt8} {t : TypeId} (h : w.heap[g]? = some (.cells (bys L).toArray t (0, 0))) : Sl w (some ⟨g, 0, none⟩) L :=
  Sl.of fun i hi => by rw [Nat.zero_add, cell_of_row _ _ _ _ _ _ h, List.getElem?_toArray, bys_at hi]
theorem Rm.At.sl {w : World} {r : Rm} (h : r.At w) : Sl w (some ⟨r.g, 0, none⟩) r.ds := by
  have := (row_sl h).take r.ds.length
  rwa [List.take_left] at this
theorem Rm.At.mark {w : World} {r : Rm} (h : r.At w) (k : Nat) (hk : k < 160) : w.cell? ⟨r.g, r.ds.length + k, none⟩ = some (.int .u8 99) := by
  rw [cell_of_row _ _ _ _ _ _ h, List.getElem?_toArray, bys_at (by rw [List.length_append, marks, List.length_replicate]; omega)]
  rw [List.getD_eq_getElem?_getD, List.getElem?_append_right (by omega), marks, List.getElem?_replicate, if_pos (by omega)]; rfl

set_option maxHeartbeats 800000 in
set_option maxRecDepth 100000 in
theorem untouchedRow_ok (r : Rm) (wo : Option Addr) (wc : Nat) (w : World) (hat : r.At w) (hs : Sl w wo r.ds) (n : Nat) (hn : r.ds.length = n) (hm : n ≤ 3000000) :
    Calls Try.prog 9 #[.slice (some ⟨r.g, 0, none⟩) n (n + 160), .slice wo n wc] w fun e w' => e = .returned (.bool true) ∧ ∃ k, w' = w.drewN k := by
  have HC : Hid (∀ m k : Nat, k < 160 → (w.drewN m).cell? ⟨r.g, n + k, none⟩ = some (.int .u8 99)) := fun m k hk => by
    have := hat.mark k hk
    rw [hn] at this
    exact this
  have HS : Hid (∀ W : World, W = w → Calls Try.prog 18 #[.slice (some ⟨r.g, 0, none⟩) n (n + 160), .slice wo n wc] W fun e w' => e = .returned (.bool true) ∧ ∃ k, w' = w.drewN k) := by
    rintro W rfl
    refine (same_any (some ⟨r.g, 0, none⟩) wo n (n + 160) n wc r.ds r.ds W hn hn (by omega) hat.sl hs).mono ?_
    rintro e w' ⟨rfl, h⟩
    exact ⟨by simp, h⟩
  generalize r.g = g at HC HS ⊢
  clear hat hs hn
  go_enter Try.func9, Try.ntmps9
  go_wp2_with (fail)
  refine (HS.out _ rfl).mono ?_
  rintro e w1 ⟨rfl, m, rfl⟩
  clear HS
  go_wp2_with (fail)
  go_loopw [6] (fun i wr => ∃ k : Nat, k ≤ 160 ∧ i = .int .i64 (n + k : Nat) ∧ wr = w.drewN m) (fun i wr => n + 160 - (intOf i).toNat)
  case atStart => exact ⟨0, by omega, rfl, rfl⟩
  case round =>
    obtain ⟨k, hk, rfl, rfl⟩ := hrel
    by_cases hlt : k < 160
    · have hc := HC.out m k hlt
      have hx : ((n + k : Nat) : Int) = (n : Int) + (k : Int) := by omega
      go_wp2
      go_roundw
      case rel => exact ⟨k + 1, by omega, by go_num, by first | trivial | rfl⟩
      case measure => simp [intOf]; omega
    · obtain rfl : k = 160 := by omega
      go_wp2
      go_ret
      exact ⟨rfl, m, rfl⟩
end Go.Proofs.Ythfbpbibpgblaaa
