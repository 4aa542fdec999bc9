/-
  Contracts: the closures of freightlaw3.RollWindows and nested.
-/
import Derived.Test.YtjfekdcghgpchaaEs
namespace Go.Proofs.Ytjfekdcghgpchaa
open Go.RowKit
set_option linter.unusedVariables false
set_option linter.unusedSimpArgs false

/-- What the law's variables hold: data, size, n. -/
structure Dv (w : World) (Db Sz Nb b off cap size nn : Nat) (xs : List UInt8) : Prop where
  d : w.cell? ⟨Db, 0, none⟩ = some (.slice (some ⟨b, off, none⟩) xs.length cap)
  s : w.cell? ⟨Sz, 0, none⟩ = some (.int .i64 size)
  n : w.cell? ⟨Nb, 0, none⟩ = some (.int .i64 nn)
  sl : Sl w (some ⟨b, off, none⟩) xs
  h1 : 1 ≤ size
  h2 : size ≤ xs.length
  hn : nn = xs.length - size + 1
  le : xs.length ≤ cap
  max : xs.length ≤ 100000

theorem Dv.kept {l : List Nat} {w w' : World} {Db Sz Nb b off cap size nn : Nat} {xs : List UInt8} (h : Dv w Db Sz Nb b off cap size nn xs) (hk : Kept l w w') (h1 : Db ∉ l) (h2 : Sz ∉ l) (h3 : Nb ∉ l) (h4 : b ∉ l) : Dv w' Db Sz Nb b off cap size nn xs :=
  ⟨hk.cellOf h.d h1, hk.cellOf h.s h2, hk.cellOf h.n h3, h.sl.kept hk (fun _ a ha => by cases ha; exact h4), h.h1, h.h2, h.hn, h.le, h.max⟩

set_option maxHeartbeats 1000000 in
set_option maxRecDepth 100000 in
theorem rw1_ok (k G Db Sz Nb Ok b off cap size nn : Nat) (xs : List UInt8) (w : World) (hd : Dv w Db Sz Nb b off cap size nn xs) (hk : k + size ≤ xs.length) (hG : Var1 w G (.int .i64 k) 3) :
    Calls Try.prog 18 #[.int .i64 k, .int .i64 (Rol.sum (wat xs size k)), .pointer (some ⟨G, 0, none⟩), .pointer (some ⟨Nb, 0, none⟩), .pointer (some ⟨Db, 0, none⟩), .pointer (some ⟨Sz, 0, none⟩), .pointer (some ⟨Ok, 0, none⟩)] w fun e w' => e = .returned (.bool true) ∧ w' = w.setCell ⟨G, 0, none⟩ (.int .i64 ((k + 1 : Nat) : Int)) := by
  have c1 := hd.d
  have c2 := hd.s
  have c3 := hd.n
  have c4 := hG.cell
  have f4 := hG.fr
  have hmx := hd.max
  have hle := hd.le
  have h1 := hd.h1
  have hkn : k < nn := by have := hd.hn; have := hd.h2; omega
  have hcut : ∀ W, (Instr.slice 23 (.slice (some ⟨b, off, none⟩) xs.length cap) (some (.int .i64 k)) (some (.int .i64 ((k : Int) + (size : Int)))) none).run Try.prog W = .ok (.slice (some ⟨b, off + k, none⟩) size (cap - k)) W := fun W => Try.cutWin W b off xs.length cap k size (by omega) h1
  have HR : Hid (Calls Try.prog 11 #[.slice (some ⟨b, off + k, none⟩) size (cap - k)] w fun e w' => e = .returned (.int .i64 (Rol.sum (wat xs size k))) ∧ w' = w) := refsum_n _ size _ _ w (wat_length _ _ _ hk) (by omega) (hd.sl.wat size k hk)
  have g2 : ¬ ((nn : Int) ≤ (k : Int)) := by omega
  obtain ⟨N, hN⟩ : ∃ N, N = xs.length := ⟨_, rfl⟩
  rw [← hN] at c1 hcut hmx hle hk
  generalize Rol.sum (wat xs size k) = sm at HR ⊢
  clear hd hG hN
  go_enter Try.func18, Try.ntmps18
  go_wp2_with (go_at_call 11; refine HR.out.mono ?_; rintro e w' ⟨rfl, hw⟩; obtain rfl := hw.symm)
  go_ret
  exact ⟨rfl, rfl⟩

set_option maxHeartbeats 1000000 in
set_option maxRecDepth 100000 in
theorem rw2_stop (k G St Ov : Nat) (at_ sm : Int) (w : World) (hG : Var1 w G (.int .i64 k) 3) (hO : Var1 w Ov (.bool false) 4) (hS : w.cell? ⟨St, 0, none⟩ = some (.int .i64 k)) (hGO : G ≠ Ov) (hSO : St ≠ Ov) (hb : k ≤ 1000000) :
    Calls Try.prog 19 #[.int .i64 at_, .int .i64 sm, .pointer (some ⟨G, 0, none⟩), .pointer (some ⟨St, 0, none⟩), .pointer (some ⟨Ov, 0, none⟩)] w fun e w' => e = .returned (.bool false) ∧ w' = (w.setCell ⟨Ov, 0, none⟩ (.bool false)).setCell ⟨G, 0, none⟩ (.int .i64 ((k + 1 : Nat) : Int)) := by
  have c1 := hG.cell
  have f1 := hG.fr
  have c2 := hO.cell
  have f2 := hO.fr
  have hOG : Ov ≠ G := Ne.symm hGO
  clear hG hO
  go_enter Try.func19, Try.ntmps19
  go_wp2
  go_ret
  exact ⟨rfl, rfl⟩

set_option maxHeartbeats 1000000 in
set_option maxRecDepth 100000 in
theorem rw2_on (k G St Ov : Nat) (at_ sm stop : Int) (w : World) (hG : Var1 w G (.int .i64 k) 3) (hO : Var1 w Ov (.bool false) 4) (hS : w.cell? ⟨St, 0, none⟩ = some (.int .i64 stop)) (hGO : G ≠ Ov) (hSO : St ≠ Ov) (hb : k ≤ 1000000) (hne : (k : Int) ≠ stop) (hlt : 0 ≤ stop → (k : Int) ≤ stop) :
    Calls Try.prog 19 #[.int .i64 at_, .int .i64 sm, .pointer (some ⟨G, 0, none⟩), .pointer (some ⟨St, 0, none⟩), .pointer (some ⟨Ov, 0, none⟩)] w fun e w' => e = .returned (.bool true) ∧ w' = (w.setCell ⟨Ov, 0, none⟩ (.bool false)).setCell ⟨G, 0, none⟩ (.int .i64 ((k + 1 : Nat) : Int)) := by
  have c1 := hG.cell
  have f1 := hG.fr
  have c2 := hO.cell
  have f2 := hO.fr
  have hOG : Ov ≠ G := Ne.symm hGO
  have g1 : ((k : Int) == stop) = false := by simpa using hne
  clear hG hO
  by_cases hs : 0 ≤ stop
  · have g2 : ¬ stop < (k : Int) := by have := hlt hs; omega
    clear hlt
    go_enter Try.func19, Try.ntmps19
    go_wp2
    go_ret
    exact ⟨rfl, rfl⟩
  · have g2 : stop < (k : Int) := by omega
    clear hlt
    go_enter Try.func19, Try.ntmps19
    go_wp2
    go_ret
    exact ⟨rfl, rfl⟩

set_option maxHeartbeats 1000000 in
set_option maxRecDepth 100000 in
theorem n11_ok (k Ok In : Nat) (sm : Int) (w : World) (hO : Var1 w Ok (.bool true) 4) (hI : Var1 w In (.int .i64 k) 3) (hne : Ok ≠ In) (hk : k ≤ 1000000) :
    Calls Try.prog 31 #[.int .i64 k, .int .i64 sm, .pointer (some ⟨Ok, 0, none⟩), .pointer (some ⟨In, 0, none⟩)] w fun e w' => e = .returned (.bool (decide (k + 1 < 4))) ∧ w' = (w.setCell ⟨Ok, 0, none⟩ (.bool true)).setCell ⟨In, 0, none⟩ (.int .i64 ((k + 1 : Nat) : Int)) := by
  have c1 := hO.cell
  have f1 := hO.fr
  have c2 := hI.cell
  have f2 := hI.fr
  have hne' : In ≠ Ok := Ne.symm hne
  have g0 : ((k : Int) == (k : Int)) = true := by simp
  clear hO hI
  go_enter Try.func31, Try.ntmps31
  go_wp2
  go_ret
  refine ⟨?_, rfl⟩
  congr 2
  simp
  omega

end Go.Proofs.Ytjfekdcghgpchaa
