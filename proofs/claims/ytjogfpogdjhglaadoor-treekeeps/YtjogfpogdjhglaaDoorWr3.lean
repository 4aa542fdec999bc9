/-
  Contracts: code.Writer: what is shut; Raw, Text, Fixed.
-/
import Derived.Test.YtjogfpogdjhglaaDoorWr2
namespace Go.Proofs.YtjogfpogdjhglaaDoor
open Go.RowKit
set_option linter.unusedVariables false
set_option linter.unusedSimpArgs false

/-- A nil Writer, or one that was refused something. -/
def Shut (w : World) (p : Option Addr) : Prop := p = none ∨ ∃ b, p = some ⟨b, 0, none⟩ ∧ Spoilt w b
theorem Shut.kept {l : List Nat} {w w' : World} {p : Option Addr} (h : Shut w p) (hk : Kept l w w') (hn : ∀ a, p = some a → a.block ∉ l) : Shut w' p := by
  rcases h with rfl | ⟨b, rfl, h⟩
  · exact .inl rfl
  · exact .inr ⟨b, rfl, hk.cellOf h (hn _ rfl)⟩

set_option maxHeartbeats 800000 in
set_option maxRecDepth 100000 in
theorem wclosed_shut {w : World} {p : Option Addr} (h : Shut w p) :
    Calls Tryd.prog 27 #[.pointer p] w fun e w' => e = .returned (.bool true) ∧ w' = w := by
  rcases h with rfl | ⟨b, rfl, h⟩
  · go_enter Tryd.func27, Tryd.ntmps27
    go_wp2
    go_ret
    exact ⟨rfl, rfl⟩
  · have h' : w.cell? ⟨b, 0, none⟩ = some (.int .i64 1) := h
    clear h
    go_enter Tryd.func27, Tryd.ntmps27
    go_wp2
    go_ret
    exact ⟨rfl, rfl⟩

set_option maxHeartbeats 800000 in
set_option maxRecDepth 100000 in
theorem wnumber_shut {w : World} {p : Option Addr} (h : Shut w p) (v : Int) :
    Calls Tryd.prog 17 #[.pointer p, .int .i64 v] w fun e w' => e = .returned (.tuple #[]) ∧ w' = w := by
  go_enter Tryd.func17, Tryd.ntmps17
  go_wp2_with (go_at_call 27; refine (wclosed_shut h).mono ?_; rintro e w' ⟨rfl, hw⟩; obtain rfl := hw.symm)
  exact bodyPost_ret (results_none rfl _ _ _) rfl ⟨rfl, rfl⟩

set_option maxHeartbeats 800000 in
set_option maxRecDepth 100000 in
theorem wfixed_shut {w : World} {p : Option Addr} (h : Shut w p) (v n : Int) :
    Calls Tryd.prog 16 #[.pointer p, .int .i64 v, .int .i64 n] w fun e w' => e = .returned (.tuple #[]) ∧ w' = w := by
  go_enter Tryd.func16, Tryd.ntmps16
  go_wp2_with (go_at_call 27; refine (wclosed_shut h).mono ?_; rintro e w' ⟨rfl, hw⟩; obtain rfl := hw.symm)
  exact bodyPost_ret (results_none rfl _ _ _) rfl ⟨rfl, rfl⟩

set_option maxHeartbeats 800000 in
set_option maxRecDepth 100000 in
theorem wraw_shut {w : World} {p : Option Addr} (h : Shut w p) (ao : Option Addr) (n cap : Nat) :
    Calls Tryd.prog 19 #[.pointer p, .slice ao n cap] w fun e w' => e = .returned (.tuple #[]) ∧ w' = w := by
  go_enter Tryd.func19, Tryd.ntmps19
  go_wp2_with (go_at_call 27; refine (wclosed_shut h).mono ?_; rintro e w' ⟨rfl, hw⟩; obtain rfl := hw.symm)
  exact bodyPost_ret (results_none rfl _ _ _) rfl ⟨rfl, rfl⟩

set_option maxHeartbeats 800000 in
set_option maxRecDepth 100000 in
theorem wdata_shut {w : World} {p : Option Addr} (h : Shut w p)  :
    Calls Tryd.prog 20 #[.pointer p] w fun e w' => e = .returned (.tuple #[.slice none 0 0, .int .i64 1]) ∧ w' = w := by
  go_enter Tryd.func20, Tryd.ntmps20
  go_wp2_with (go_at_call 27; refine (wclosed_shut h).mono ?_; rintro e w' ⟨rfl, hw⟩; obtain rfl := hw.symm)
  go_ret2; exact ⟨rfl, rfl⟩

set_option maxHeartbeats 800000 in
set_option maxRecDepth 100000 in
theorem wtext_shut {w : World} {p : Option Addr} (h : Shut w p) (ao : Option Addr) (n cap : Nat) (hn : n ≤ 4611686018427387904) :
    Calls Tryd.prog 18 #[.pointer p, .slice ao n cap] w fun e w' => e = .returned (.tuple #[]) ∧ w' = w := by
  go_enter Tryd.func18, Tryd.ntmps18
  go_wp2_with (first | (go_at_call 17; refine (wnumber_shut h _).mono ?_; rintro e w' ⟨rfl, hw⟩; obtain rfl := hw.symm) | (go_at_call 19; refine (wraw_shut h _ _ _).mono ?_; rintro e w' ⟨rfl, hw⟩; obtain rfl := hw.symm))
  go_end0
  exact ⟨rfl, rfl⟩

set_option maxHeartbeats 800000 in
set_option maxRecDepth 100000 in
theorem wraw_ok {b : Nat} {bs : List Nat} {ys : List UInt8} {w : World} (hW : Wr w b bs ys) (ao : Option Addr) (n cap : Nat) (xs : List UInt8) (hn : xs.length = n) (hs : Sl w ao xs) (hfar : ∀ a, ao = some a → a.block ≠ b) (hlc : xs.length ≤ cap) (hsum : ys.length + xs.length ≤ 140737488355328) :
    Calls Tryd.prog 19 #[.pointer (some ⟨b, 0, none⟩), .slice ao n cap] w fun e w' => e = .returned (.tuple #[]) ∧ Wrote w w' b bs (ys ++ xs) := by
  subst hn
  have h0 := hW.cell0
  have H := (show Hid _ from hW)
  have HS : Hid (Sl w ao xs) := hs
  have HF := (show Hid _ from hfar)
  clear hW hs hfar
  go_enter Tryd.func19, Tryd.ntmps19
  go_wp2_with (first | (go_at_call 27; refine (wclosed_ok _ _ h0).mono ?_; rintro e w' ⟨rfl, hw⟩; obtain rfl := hw.symm) | (go_at_call 29; refine (put_any b bs ys xs ao cap _ H.out HS.out HF.out hlc hsum).mono ?_; rintro e w2 ⟨rfl, hwr⟩))
  go_end0
  exact ⟨rfl, hwr⟩

set_option maxHeartbeats 800000 in
set_option maxRecDepth 100000 in
theorem wtext_ok {b : Nat} {bs : List Nat} {ys : List UInt8} {w : World} (hW : Wr w b bs ys) (ao : Option Addr) (n cap : Nat) (xs : List UInt8) (hn : xs.length = n) (hs : Sl w ao xs) (hfar : ∀ a, ao = some a → a.block ≠ b) (hlc : xs.length ≤ cap) (hsum : ys.length + 5 + xs.length ≤ 140737488355328) (hmax : xs.length ≤ 2147483647) :
    Calls Tryd.prog 18 #[.pointer (some ⟨b, 0, none⟩), .slice ao n cap] w fun e w' => e = .returned (.tuple #[]) ∧ Wrote w w' b bs (ys ++ Pure.enc xs.length ++ xs) := by
  have H := (show Hid _ from hW)
  have HS : Hid (Sl w ao xs) := hs
  have HF := (show Hid _ from hfar)
  have hel := Pure.enc_len5 hmax
  clear hW hs hfar
  go_enter Tryd.func18, Tryd.ntmps18
  go_wp2_with (fail)
  rw [← hn]
  refine (wnumber_ok H.out xs.length hmax (by omega)).mono ?_
  rintro e w1 ⟨rfl, bs1, hw1, hk1, hs1⟩
  have hsl1 := HS.out.kept hk1 (fun _ a ha => by simpa using HF.out a ha)
  have HW1 := (show Hid _ from hw1)
  have HS1 : Hid (Sl w1 ao xs) := hsl1
  clear hw1 hsl1 H
  go_wp2_with (fail)
  refine (wraw_ok HW1.out ao _ cap xs hn HS1.out HF.out hlc (by simp; omega)).mono ?_
  rintro e w2 ⟨rfl, hwr⟩
  have hfin : Hid (Wrote w w2 b bs (ys ++ Pure.enc xs.length ++ xs)) := Wrote.trans hk1 hs1 hwr
  clear hwr
  go_wp2
  go_end0
  exact ⟨rfl, hfin.out⟩

end Go.Proofs.YtjogfpogdjhglaaDoor
