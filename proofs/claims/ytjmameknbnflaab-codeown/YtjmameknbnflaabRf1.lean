/-
  Contracts: freightref1's reader: how it lies in memory; spoil, number, Left.
-/
import Derived.Test.YtjmameknbnflaabRd2
namespace Go.Proofs.Ytjmameknbnflaab
open Go.RowKit
set_option linter.unusedVariables false
set_option linter.unusedSimpArgs false

/-- The document's reader lies at block b. -/
structure Rf (w : World) (b : Nat) (ao : Option Addr) (cap : Nat) (xs : List UInt8) (at_ : Nat) (c p : Int) : Prop where
  c0 : w.cell? ⟨b, 0, none⟩ = some (.slice ao xs.length cap)
  c1 : w.cell? ⟨b, 1, none⟩ = some (.int .i64 at_)
  c2 : w.cell? ⟨b, 2, none⟩ = some (.int .i64 c)
  c3 : w.cell? ⟨b, 3, none⟩ = some (.int .i64 p)
  f1 : w.frozen? ⟨b, 1, none⟩ = false
  f2 : w.frozen? ⟨b, 2, none⟩ = false
  f3 : w.frozen? ⟨b, 3, none⟩ = false
  le : at_ ≤ xs.length
  lc : xs.length ≤ cap
  small : xs.length ≤ 140737488355328
  sl : Sl w ao xs
  apart : xs ≠ [] → ∀ a, ao = some a → a.block ≠ b

theorem Rf.kept {l : List Nat} {w w' : World} {b : Nat} {ao : Option Addr} {cap : Nat} {xs : List UInt8} {at_ : Nat} {c p : Int} (h : Rf w b ao cap xs at_ c p) (hk : Kept l w w') (hn : b ∉ l) (hs : xs ≠ [] → ∀ a, ao = some a → a.block ∉ l) : Rf w' b ao cap xs at_ c p := by
  have hb := World.block_lt_of_cell? _ _ h.c0
  exact ⟨hk.cellOf h.c0 hn, hk.cellOf h.c1 hn, hk.cellOf h.c2 hn, hk.cellOf h.c3 hn, (hk.frozen (p := ⟨b, 1, none⟩) hb hn).trans h.f1, (hk.frozen (p := ⟨b, 2, none⟩) hb hn).trans h.f2, (hk.frozen (p := ⟨b, 3, none⟩) hb hn).trans h.f3, h.le, h.lc, h.small, h.sl.kept hk hs, h.apart⟩
theorem Rf.lt {w : World} {b : Nat} {ao : Option Addr} {cap : Nat} {xs : List UInt8} {at_ : Nat} {c p : Int} (h : Rf w b ao cap xs at_ c p) : b < w.heap.size := World.block_lt_of_cell? _ _ h.c0
theorem Rf.drewN {w : World} {b : Nat} {ao : Option Addr} {cap : Nat} {xs : List UInt8} {at_ : Nat} {c p : Int} (h : Rf w b ao cap xs at_ c p) (n : Nat) : Rf (w.drewN n) b ao cap xs at_ c p :=
  h.kept ((Kept.refl [] w).drewN n) (by simp) (by simp)
/-- It stands elsewhere. -/
theorem Rf.moved {w : World} {b : Nat} {ao : Option Addr} {cap : Nat} {xs : List UInt8} {at_ : Nat} {c p : Int} (h : Rf w b ao cap xs at_ c p) (n : Nat) (hn : n ≤ xs.length) :
    Rf (w.setCell ⟨b, 1, none⟩ (.int .i64 n)) b ao cap xs n c p := by
  refine ⟨?_, ?_, ?_, ?_, ?_, ?_, ?_, hn, h.lc, h.small, ?_, h.apart⟩
  · rw [World.cell?_setCell_other _ _ _ _ (by simp)]; exact h.c0
  · exact World.cell?_setCell_same _ _ _ h.c1
  · rw [World.cell?_setCell_other _ _ _ _ (by simp)]; exact h.c2
  · rw [World.cell?_setCell_other _ _ _ _ (by simp)]; exact h.c3
  · rw [World.frozen?_setCell]; exact h.f1
  · rw [World.frozen?_setCell]; exact h.f2
  · rw [World.frozen?_setCell]; exact h.f3
  · exact h.sl.kept ((Kept.refl [b] w).setCell (by simp) _) (fun hne a ha => by simpa using h.apart hne a ha)
/-- It is spoilt. -/
theorem Rf.refused {w : World} {b : Nat} {ao : Option Addr} {cap : Nat} {xs : List UInt8} {at_ : Nat} {c p : Int} (h : Rf w b ao cap xs at_ c p) (c' p' : Int) :
    Rf ((w.setCell ⟨b, 2, none⟩ (.int .i64 c')).setCell ⟨b, 3, none⟩ (.int .i64 p')) b ao cap xs at_ c' p' := by
  refine ⟨?_, ?_, ?_, ?_, ?_, ?_, ?_, h.le, h.lc, h.small, ?_, h.apart⟩
  · rw [World.cell?_setCell_other _ _ _ _ (by simp), World.cell?_setCell_other _ _ _ _ (by simp)]; exact h.c0
  · rw [World.cell?_setCell_other _ _ _ _ (by simp), World.cell?_setCell_other _ _ _ _ (by simp)]; exact h.c1
  · rw [World.cell?_setCell_other _ _ _ _ (by simp)]; exact World.cell?_setCell_same _ _ _ h.c2
  · refine World.cell?_setCell_same _ _ _ (u := .int .i64 p) ?_
    rw [World.cell?_setCell_other _ _ _ _ (by simp)]; exact h.c3
  · rw [World.frozen?_setCell, World.frozen?_setCell]; exact h.f1
  · rw [World.frozen?_setCell, World.frozen?_setCell]; exact h.f2
  · rw [World.frozen?_setCell, World.frozen?_setCell]; exact h.f3
  · exact h.sl.kept (((Kept.refl [b] w).setCell (by simp) _).setCell (by simp) _) (fun hne a ha => by simpa using h.apart hne a ha)

set_option maxHeartbeats 400000 in
set_option maxRecDepth 100000 in
/-- spoil. -/
theorem spoil_any {w : World} {b : Nat} {ao : Option Addr} {cap : Nat} {xs : List UInt8} {at_ : Nat} {c p : Int} (h : Rf w b ao cap xs at_ c p) (c' : Int) :
    Calls Try.prog 50 #[.pointer (some ⟨b, 0, none⟩), .int .i64 c'] w fun e w' => e = .returned (.tuple #[]) ∧ Kept [b] w w' ∧ Rf w' b ao cap xs at_ c' at_ := by
  have h1 := h.c1
  have h2 := h.c2
  have h3 := h.c3
  have f2 := h.f2
  have f3 := h.f3
  have H := (show Hid (Rf w b ao cap xs at_ c p) from h)
  clear h
  go_enter Try.func50, Try.ntmps50
  go_wp2
  go_end0
  exact ⟨rfl, ((Kept.refl [b] w).setCell (by simp) _).setCell (by simp) _, H.out.refused c' at_⟩

set_option maxHeartbeats 400000 in
set_option maxRecDepth 100000 in
theorem refleft_bad {w : World} {b : Nat} {ao : Option Addr} {cap : Nat} {xs : List UInt8} {at_ : Nat} {c p : Int} (h : Rf w b ao cap xs at_ c p) (he : c ≠ 0) :
    Calls Try.prog 54 #[.pointer (some ⟨b, 0, none⟩)] w fun e' w' => e' = .returned (.int .i64 0) ∧ ∃ n, w' = w.drewN n := by
  have h2 := h.c2
  have hne : (c != 0) = true := by simpa using he
  clear h
  go_enter Try.func54, Try.ntmps54
  go_wp2
  go_ret
  exact ⟨rfl, 0, rfl⟩

set_option maxHeartbeats 400000 in
set_option maxRecDepth 100000 in
theorem refleft_ok {w : World} {b : Nat} {ao : Option Addr} {cap : Nat} {xs : List UInt8} {at_ : Nat} {p : Int} (h : Rf w b ao cap xs at_ 0 p) :
    Calls Try.prog 54 #[.pointer (some ⟨b, 0, none⟩)] w fun e' w' => e' = .returned (.int .i64 (xs.length - at_ : Nat)) ∧ ∃ n, w' = w.drewN n := by
  have h0 := h.c0
  have h1 := h.c1
  have h2 := h.c2
  have hs := h.small
  have hl := h.le
  have hlc := h.lc
  clear h
  go_enter Try.func54, Try.ntmps54
  go_wp2
  go_quiet (fail)
  go_wp2
  go_ret
  exact ⟨ret_int (by omega), _, rfl⟩

set_option maxHeartbeats 1600000 in
set_option maxRecDepth 100000 in
theorem refnum_some (b off n cap at_ : Nat) (ys : List UInt8) (w : World) (hn : at_ + ys.length = n) (hm : n ≤ 140737488355328) (hc : ∀ i, i < ys.length → w.cell? ⟨b, off + (at_ + i), none⟩ = some (.int .u8 (ys.getD i 0).toNat)) :
    Calls Try.prog 51 #[.slice (some ⟨b, off, none⟩) n cap, .int .i64 at_] w fun e w' => e = .returned (.tuple #[.int .i64 (Pure.num ys).1, .int .i64 (Pure.num ys).2.1, .int .i64 (Pure.num ys).2.2]) ∧ w' = w := by
  have HN : Hid (at_ + ys.length = n) := hn
  have hatn : at_ ≤ n := by omega
  clear hn
  go_enter Try.func51, Try.ntmps51
  go_wp2
  go_loop [7, 8, 9] (fun v u i => ∃ k x z : Nat, k ≤ 5 ∧ i = .int .i64 k ∧ v = .int .i64 x ∧ u = .int .i64 z ∧ x < z ∧ Hid (z = 2 ^ (7 * k)) ∧ Hid (Pure.num ys = Pure.numGo ys (5 - k) k x)) (fun _ _ i => 5 - (intOf i).toNat)
  case atStart => exact ⟨0, 0, 1, by omega, rfl, rfl, rfl, by omega, rfl, rfl⟩
  case round =>
    obtain ⟨k, x, z, hk5, rfl, rfl, rfl, hxz, HZ, HR⟩ := hrel
    by_cases h5 : k = 5
    · subst h5
      have HR' : Hid (Pure.num ys = (0, 0, 11)) := HR.out
      clear HR hc HZ
      go_wp2
      go_ret3
      exact ⟨ret_num (by rw [HR'.out]; rfl) (by rw [HR'.out]; rfl) (by rw [HR'.out]; rfl), rfl⟩
    · obtain ⟨f, hf⟩ : ∃ f, 5 - k = f + 1 := ⟨4 - k, by omega⟩
      have hk4 : k < 5 := by omega
      have hz4 : z ≤ 268435456 := by rw [HZ.out]; exact Pure.pow_le4 (by omega)
      have HZ2 : Hid (z * 128 = 2 ^ (7 * (k + 1))) := by
        show _ = _
        rw [show 7 * (k + 1) = 7 * k + 7 by omega, Nat.pow_add, ← HZ.out]
      by_cases hlt : at_ + k < n
      · have hky : k < ys.length := by have := HN.out; omega
        have hcell := hc k hky
        have hcb : (ys.getD k 0).toNat < 256 := UInt8.toNat_lt _
        clear hc
        by_cases h128 : (ys.getD k 0).toNat < 128
        · obtain ⟨m, hmm⟩ : ∃ m, m = (ys.getD k 0).toNat * z := ⟨_, rfl⟩
          have hml : m ≤ 127 * 268435456 := by rw [hmm]; exact Nat.mul_le_mul (by omega) hz4
          have hsh : (((ys.getD k 0).toNat : Int) * (z : Int)) = (m : Int) := by rw [hmm]; simp
          have hmd : (((ys.getD k 0).toNat : Int) % 128) = ((ys.getD k 0).toNat : Int) := by omega
          by_cases hbad : 2147483647 < x + m ∨ (0 < k ∧ (ys.getD k 0).toNat = 0)
          · have HR' : Hid (Pure.num ys = (0, 0, 11)) := by
              have := HR.out
              rw [hf, Pure.numGo_bad hky h128 (by rw [← HZ.out, ← hmm]; exact hbad)] at this
              exact this
            clear HR hmm hf hky HZ HZ2
            generalize (ys.getD k 0).toNat = c at hcell hcb h128 hsh hbad hmd
            by_cases hz : c = 0 ∧ 0 < k
            · obtain ⟨rfl, hk0⟩ := hz
              obtain rfl : m = 0 := by simp at hsh; omega
              clear hbad hmd hsh
              go_wp2
              go_ret3
              exact ⟨ret_num (by rw [HR'.out]; rfl) (by rw [HR'.out]; rfl) (by rw [HR'.out]; rfl), rfl⟩
            · have hbig : 2147483647 < x + m := by omega
              by_cases hc0 : c = 0
              · subst hc0
                obtain rfl : k = 0 := by omega
                obtain rfl : m = 0 := by simp at hsh; omega
                omega
              · have b0 : ((c : Int) == 0) = false := by simp; omega
                clear hbad hz
                go_wp2
                go_ret3
                exact ⟨ret_num (by rw [HR'.out]; rfl) (by rw [HR'.out]; rfl) (by rw [HR'.out]; rfl), rfl⟩
          · have HR' : Hid (Pure.num ys = (x + m, k + 1, 0)) := by
              have := HR.out
              rw [hf, Pure.numGo_good hky h128 (by rw [← HZ.out, ← hmm]; exact hbad), ← HZ.out, ← hmm] at this
              exact this
            clear HR hmm hf hky HZ HZ2
            generalize (ys.getD k 0).toNat = c at hcell hcb h128 hsh hbad hmd
            have hsm : x + m ≤ 2147483647 := by omega
            by_cases hk0 : 0 < k
            · have hc0 : ((c : Int) == 0) = false := by simp; omega
              clear hbad
              go_wp2
              go_ret3
              exact ⟨ret_num (by rw [HR'.out]; simp) (by rw [HR'.out]; simp) (by rw [HR'.out]; rfl), rfl⟩
            · clear hbad
              by_cases hc0 : c = 0
              · subst hc0
                obtain rfl : m = 0 := by simp at hsh; omega
                clear hsh hmd
                go_wp2
                go_ret3
                exact ⟨ret_num (by rw [HR'.out]; simp) (by rw [HR'.out]; simp) (by rw [HR'.out]; rfl), rfl⟩
              · have b0 : ((c : Int) == 0) = false := by simp; omega
                go_wp2
                go_ret3
                exact ⟨ret_num (by rw [HR'.out]; simp) (by rw [HR'.out]; simp) (by rw [HR'.out]; rfl), rfl⟩
        · obtain ⟨m, hmm⟩ : ∃ m, m = ((ys.getD k 0).toNat - 128) * z := ⟨_, rfl⟩
          have hml : m ≤ 127 * 268435456 := by rw [hmm]; exact Nat.mul_le_mul (by omega) hz4
          have hml2 : m ≤ 127 * z := by rw [hmm]; exact Nat.mul_le_mul (by omega) (Nat.le_refl _)
          obtain ⟨d, hd⟩ : ∃ d, d = (ys.getD k 0).toNat - 128 := ⟨_, rfl⟩
          have hmd : (((ys.getD k 0).toNat : Int) % 128) = (d : Int) := by omega
          have hsh : ((d : Int) * (z : Int)) = (m : Int) := by rw [hmm, hd]; simp
          have HR' : Hid (Pure.num ys = Pure.numGo ys (5 - (k + 1)) (k + 1) (x + m)) := by
            have := HR.out
            rw [hf, Pure.numGo_more hky h128, ← HZ.out, ← hmm] at this
            rw [show 5 - (k + 1) = f by omega]
            exact this
          have hd2 : d ≤ 127 := by omega
          clear HR hmm hf hd hky HZ
          generalize (ys.getD k 0).toNat = c at hcell hcb h128 hmd
          go_wp2
          go_round
          case rel => exact ⟨k + 1, x + m, z * 128, by omega, by go_num, by go_num, by go_num, by omega, HZ2, HR'⟩
          case measure => simp [intOf]; omega
      · have HR' : Hid (Pure.num ys = (0, 0, 10)) := by
          have := HR.out
          rw [hf, Pure.numGo_short (by have := HN.out; omega)] at this
          exact this
        clear HR hc hf HZ HZ2
        go_wp2
        go_ret3
        exact ⟨ret_num (by rw [HR'.out]; rfl) (by rw [HR'.out]; rfl) (by rw [HR'.out]; rfl), rfl⟩

set_option maxHeartbeats 800000 in
set_option maxRecDepth 100000 in
theorem refnum_none (ao : Option Addr) (cap : Nat) (w : World) :
    Calls Try.prog 51 #[.slice ao 0 cap, .int .i64 0] w fun e w' => e = .returned (.tuple #[.int .i64 (Pure.num []).1, .int .i64 (Pure.num []).2.1, .int .i64 (Pure.num []).2.2]) ∧ w' = w := by
  go_enter Try.func51, Try.ntmps51
  go_wp2
  go_loop [7, 8, 9] (fun v u i => i = .int .i64 0 ∧ v = .int .i64 0 ∧ u = .int .i64 1) (fun _ _ i => 0)
  case atStart => exact ⟨rfl, rfl, rfl⟩
  case round =>
    obtain ⟨rfl, rfl, rfl⟩ := hrel
    go_wp2
    go_ret3
    exact ⟨ret_num rfl rfl rfl, rfl⟩

/-- freightref1.number: the number at a place. -/
theorem refnum_any (ao : Option Addr) (n cap at_ : Nat) (xs : List UInt8) (w : World) (hn : xs.length = n) (hat : at_ ≤ n) (hm : n ≤ 140737488355328) (h : Sl w ao xs) {v k c : Nat} (hr : Pure.num (xs.drop at_) = (v, k, c)) :
    Calls Try.prog 51 #[.slice ao n cap, .int .i64 at_] w fun e w' => e = .returned (.tuple #[.int .i64 v, .int .i64 k, .int .i64 c]) ∧ w' = w := by
  by_cases h0 : xs = []
  · subst h0
    obtain rfl : n = 0 := by simpa using hn.symm
    obtain rfl : at_ = 0 := by omega
    have := refnum_none ao cap w
    rw [show (List.drop 0 ([] : List UInt8)) = [] from rfl] at hr
    rw [hr] at this
    exact this
  · obtain ⟨b, off, rfl, hb, hc⟩ := h.open h0
    have := refnum_some b off n cap at_ (xs.drop at_) w (by simp; omega) hm (fun i hi => by
      simp only [List.length_drop] at hi
      rw [hc (at_ + i) (by omega)]
      simp [List.getElem?_drop])
    rw [hr] at this
    exact this

end Go.Proofs.Ytjmameknbnflaab
