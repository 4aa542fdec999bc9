/-
  Contracts: code.Writer: what is shut; Raw, Text, Fixed.
-/
import Derived.Test.YtmhnjhnnaciokaaWr2
namespace Go.Proofs.Ytmhnjhnnaciokaa
open Go.RowKit
set_option linter.unusedVariables false
set_option linter.unusedSimpArgs false

/-- A nil Writer, or one that was refused something. -/
def Shut (w : World) (p : Option Addr) : Prop := p = none ∨ ∃ b, p = some ⟨b, 0, none⟩ ∧ Spoilt w b
theorem Shut.kept {l : List Nat} {w w' : World} {p : Option Addr} (h : Shut w p) (hk : Kept l w w') (hn : ∀ a, p = some a → a.block ∉ l) : Shut w' p := by
  rcases h with rfl | ⟨b, rfl, h⟩
  · exact .inl rfl
  · exact .inr ⟨b, rfl, hk.cellOf h (hn _ rfl)⟩

set_option maxHeartbeats 800000 in
set_option maxRecDepth 100000 in
theorem wclosed_shut {w : World} {p : Option Addr} (h : Shut w p) :
    Calls Try.prog 37 #[.pointer p] w fun e w' => e = .returned (.bool true) ∧ w' = w := by
  rcases h with rfl | ⟨b, rfl, h⟩
  · go_enter Try.func37, Try.ntmps37
    go_wp2
    go_ret
    exact ⟨rfl, rfl⟩
  · have h' : w.cell? ⟨b, 0, none⟩ = some (.int .i64 1) := h
    clear h
    go_enter Try.func37, Try.ntmps37
    go_wp2
    go_ret
    exact ⟨rfl, rfl⟩

set_option maxHeartbeats 800000 in
set_option maxRecDepth 100000 in
theorem wnumber_shut {w : World} {p : Option Addr} (h : Shut w p) (v : Int) :
    Calls Try.prog 21 #[.pointer p, .int .i64 v] w fun e w' => e = .returned (.tuple #[]) ∧ w' = w := by
  go_enter Try.func21, Try.ntmps21
  go_wp2_with (go_at_call 37; refine (wclosed_shut h).mono ?_; rintro e w' ⟨rfl, hw⟩; obtain rfl := hw.symm)
  exact bodyPost_ret (results_none rfl _ _ _) rfl ⟨rfl, rfl⟩

set_option maxHeartbeats 800000 in
set_option maxRecDepth 100000 in
theorem wfixed_shut {w : World} {p : Option Addr} (h : Shut w p) (v n : Int) :
    Calls Try.prog 23 #[.pointer p, .int .i64 v, .int .i64 n] w fun e w' => e = .returned (.tuple #[]) ∧ w' = w := by
  go_enter Try.func23, Try.ntmps23
  go_wp2_with (go_at_call 37; refine (wclosed_shut h).mono ?_; rintro e w' ⟨rfl, hw⟩; obtain rfl := hw.symm)
  exact bodyPost_ret (results_none rfl _ _ _) rfl ⟨rfl, rfl⟩

set_option maxHeartbeats 800000 in
set_option maxRecDepth 100000 in
theorem wraw_shut {w : World} {p : Option Addr} (h : Shut w p) (ao : Option Addr) (n cap : Nat) :
    Calls Try.prog 22 #[.pointer p, .slice ao n cap] w fun e w' => e = .returned (.tuple #[]) ∧ w' = w := by
  go_enter Try.func22, Try.ntmps22
  go_wp2_with (go_at_call 37; refine (wclosed_shut h).mono ?_; rintro e w' ⟨rfl, hw⟩; obtain rfl := hw.symm)
  exact bodyPost_ret (results_none rfl _ _ _) rfl ⟨rfl, rfl⟩

set_option maxHeartbeats 800000 in
set_option maxRecDepth 100000 in
theorem wdata_shut {w : World} {p : Option Addr} (h : Shut w p)  :
    Calls Try.prog 24 #[.pointer p] w fun e w' => e = .returned (.tuple #[.slice none 0 0, .int .i64 1]) ∧ w' = w := by
  go_enter Try.func24, Try.ntmps24
  go_wp2_with (go_at_call 37; refine (wclosed_shut h).mono ?_; rintro e w' ⟨rfl, hw⟩; obtain rfl := hw.symm)
  go_ret2; exact ⟨rfl, rfl⟩

set_option maxHeartbeats 800000 in
set_option maxRecDepth 100000 in
theorem wraw_ok {b : Nat} {bs : List Nat} {ys : List UInt8} {w : World} (hW : Wr w b bs ys) (ao : Option Addr) (n cap : Nat) (xs : List UInt8) (hn : xs.length = n) (hs : Sl w ao xs) (hfar : ∀ a, ao = some a → a.block ≠ b) (hlc : xs.length ≤ cap) (hsum : ys.length + xs.length ≤ 140737488355328) :
    Calls Try.prog 22 #[.pointer (some ⟨b, 0, none⟩), .slice ao n cap] w fun e w' => e = .returned (.tuple #[]) ∧ Wrote w w' b bs (ys ++ xs) := by
  subst hn
  have h0 := hW.cell0
  have H := (show Hid _ from hW)
  have HS : Hid (Sl w ao xs) := hs
  have HF := (show Hid _ from hfar)
  clear hW hs hfar
  go_enter Try.func22, Try.ntmps22
  go_wp2_with (first | (go_at_call 37; refine (wclosed_ok _ _ h0).mono ?_; rintro e w' ⟨rfl, hw⟩; obtain rfl := hw.symm) | (go_at_call 39; refine (put_any b bs ys xs ao cap _ H.out HS.out HF.out hlc hsum).mono ?_; rintro e w2 ⟨rfl, hwr⟩))
  go_end0
  exact ⟨rfl, hwr⟩

end Go.Proofs.Ytmhnjhnnaciokaa
