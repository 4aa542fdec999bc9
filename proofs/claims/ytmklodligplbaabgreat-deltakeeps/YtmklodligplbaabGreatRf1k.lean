import Derived.Test.YtmklodligplbaabGreatWr1k
import Derived.Test.YtmklodligplbaabGreatRd6k
open Go.RowKit
set_option linter.unusedVariables false
set_option linter.unusedSimpArgs false
set_option maxRecDepth 100000
set_option maxHeartbeats 0
namespace Go.Proofs.YtmklodligplbaabGreat
section
structure Rf (w : World) (b : Nat) (ao : Option Addr) (cap : Nat) (xs : List UInt8) (at_ : Nat) (c p : Int) : Prop where
 c0 : w.cell? ⟨b, 0, none⟩ = some (.slice ao xs.length cap)
 c1 : w.cell? ⟨b, 1, none⟩ = some (.int .i64 at_)
 c2 : w.cell? ⟨b, 2, none⟩ = some (.int .i64 c)
 c3 : w.cell? ⟨b, 3, none⟩ = some (.int .i64 p)
 f1 : w.frozen? ⟨b, 1, none⟩ = false
 f2 : w.frozen? ⟨b, 2, none⟩ = false
 f3 : w.frozen? ⟨b, 3, none⟩ = false
 le : at_ <= xs.length
 lc : xs.length <= cap
 small : xs.length <= 140737488355328
 sl : Sl w ao xs
 apart : xs ≠ [] -> ∀ a, ao = some a -> a.block ≠ b
theorem Rf.kept {l : List Nat} {w w' : World} {b : Nat} {ao : Option Addr} {cap : Nat} {xs : List UInt8} {at_ : Nat} {c p : Int} (h : Rf w b ao cap xs at_ c p) (hk : Kept l w w') (hn : b ∉ l) (hs : xs ≠ [] -> ∀ a, ao = some a -> a.block ∉ l) : Rf w' b ao cap xs at_ c p := by
 have hb := World.block_lt_of_cell? _ _ h.c0
 exact ⟨hk.cellOf h.c0 hn, hk.cellOf h.c1 hn, hk.cellOf h.c2 hn, hk.cellOf h.c3 hn, (hk.frozen (p := ⟨b, 1, none⟩) hb hn).trans h.f1, (hk.frozen (p := ⟨b, 2, none⟩) hb hn).trans h.f2, (hk.frozen (p := ⟨b, 3, none⟩) hb hn).trans h.f3, h.le, h.lc, h.small, h.sl.kept hk hs, h.apart⟩
theorem Rf.lt {w : World} {b : Nat} {ao : Option Addr} {cap : Nat} {xs : List UInt8} {at_ : Nat} {c p : Int} (h : Rf w b ao cap xs at_ c p) : b < w.heap.size := World.block_lt_of_cell? _ _ h.c0
theorem Rf.drewN {w : World} {b : Nat} {ao : Option Addr} {cap : Nat} {xs : List UInt8} {at_ : Nat} {c p : Int} (h : Rf w b ao cap xs at_ c p) (n : Nat) : Rf (w.drewN n) b ao cap xs at_ c p :=
 h.kept ((Kept.refl [] w).drewN n) (by simp) (by simp)
theorem Rf.moved {w : World} {b : Nat} {ao : Option Addr} {cap : Nat} {xs : List UInt8} {at_ : Nat} {c p : Int} (h : Rf w b ao cap xs at_ c p) (n : Nat) (hn : n <= xs.length) :
  Rf (w.setCell ⟨b, 1, none⟩ (.int .i64 n)) b ao cap xs n c p := by
 refine ⟨?_, ?_, ?_, ?_, ?_, ?_, ?_, hn, h.lc, h.small, ?_, h.apart⟩
 ·rw [World.cell?_setCell_other _ _ _ _ (by simp)]; exact h.c0
 ·exact World.cell?_setCell_same _ _ _ h.c1
 ·rw [World.cell?_setCell_other _ _ _ _ (by simp)]; exact h.c2
 ·rw [World.cell?_setCell_other _ _ _ _ (by simp)]; exact h.c3
 ·rw [World.frozen?_setCell]; exact h.f1
 ·rw [World.frozen?_setCell]; exact h.f2
 ·rw [World.frozen?_setCell]; exact h.f3
 ·exact h.sl.kept ((Kept.refl [b] w).setCell (by simp) _) (fun hne a ha => by simpa using h.apart hne a ha)
theorem Rf.refused {w : World} {b : Nat} {ao : Option Addr} {cap : Nat} {xs : List UInt8} {at_ : Nat} {c p : Int} (h : Rf w b ao cap xs at_ c p) (c' p' : Int) :
  Rf ((w.setCell ⟨b, 2, none⟩ (.int .i64 c')).setCell ⟨b, 3, none⟩ (.int .i64 p')) b ao cap xs at_ c' p' := by
 refine ⟨?_, ?_, ?_, ?_, ?_, ?_, ?_, h.le, h.lc, h.small, ?_, h.apart⟩
 ·rw [World.cell?_setCell_other _ _ _ _ (by simp), World.cell?_setCell_other _ _ _ _ (by simp)]; exact h.c0
 ·rw [World.cell?_setCell_other _ _ _ _ (by simp), World.cell?_setCell_other _ _ _ _ (by simp)]; exact h.c1
 ·rw [World.cell?_setCell_other _ _ _ _ (by simp)]; exact World.cell?_setCell_same _ _ _ h.c2
 ·refine World.cell?_setCell_same _ _ _ (u := .int .i64 p) ?_
  rw [World.cell?_setCell_other _ _ _ _ (by simp)]; exact h.c3
 ·rw [World.frozen?_setCell, World.frozen?_setCell]; exact h.f1
 ·rw [World.frozen?_setCell, World.frozen?_setCell]; exact h.f2
 ·rw [World.frozen?_setCell, World.frozen?_setCell]; exact h.f3
 ·exact h.sl.kept (((Kept.refl [b] w).setCell (by simp) _).setCell (by simp) _) (fun hne a ha => by simpa using h.apart hne a ha)
theorem spoil_any {w : World} {b : Nat} {ao : Option Addr} {cap : Nat} {xs : List UInt8} {at_ : Nat} {c p : Int} (h : Rf w b ao cap xs at_ c p) (c' : Int) :
  Calls Tryz.prog 77 #[.pointer (some ⟨b, 0, none⟩), .int .i64 c'] w fun e w' => e = .returned (.tuple #[]) ∧ Kept [b] w w' ∧ Rf w' b ao cap xs at_ c' at_ := by
 have h1 := h.c1
 have h2 := h.c2
 have h3 := h.c3
 have f2 := h.f2
 have f3 := h.f3
 have H := (show Hid (Rf w b ao cap xs at_ c p) from h)
 clear h
 go_enter Tryz.func77, Tryz.ntmps77
 go_wp2
 go_end0
 exact ⟨rfl, ((Kept.refl [b] w).setCell (by simp) _).setCell (by simp) _, H.out.refused c' at_⟩
theorem refleft_bad {w : World} {b : Nat} {ao : Option Addr} {cap : Nat} {xs : List UInt8} {at_ : Nat} {c p : Int} (h : Rf w b ao cap xs at_ c p) (he : c ≠ 0) :
  Calls Tryz.prog 39 #[.pointer (some ⟨b, 0, none⟩)] w fun e' w' => e' = .returned (.int .i64 0) ∧ ∃ n, w' = w.drewN n := by
 have h2 := h.c2
 have hne : (c != 0) = true := by simpa using he
 clear h
 go_enter Tryz.func39, Tryz.ntmps39
 go_wp2
 go_ret
 exact ⟨rfl, 0, rfl⟩
theorem refleft_ok {w : World} {b : Nat} {ao : Option Addr} {cap : Nat} {xs : List UInt8} {at_ : Nat} {p : Int} (h : Rf w b ao cap xs at_ 0 p) :
  Calls Tryz.prog 39 #[.pointer (some ⟨b, 0, none⟩)] w fun e' w' => e' = .returned (.int .i64 (xs.length - at_ : Nat)) ∧ ∃ n, w' = w.drewN n := by
 have h0 := h.c0
 have h1 := h.c1
 have h2 := h.c2
 have hs := h.small
 have hl := h.le
 have hlc := h.lc
 clear h
 go_enter Tryz.func39, Tryz.ntmps39
 go_wp2
 go_quiet (fail)
 go_wp2
 go_ret
 exact ⟨ret_int (by omega), _, rfl⟩
theorem refnum_some (b off n cap at_ : Nat) (ys : List UInt8) (w : World) (hn : at_ + ys.length = n) (hm : n <= 140737488355328) (hc : ∀ i, i < ys.length -> w.cell? ⟨b, off + (at_ + i), none⟩ = some (.int .u8 (ys.getD i 0).toNat)) :
  Calls Tryz.prog 78 #[.slice (some ⟨b, off, none⟩) n cap, .int .i64 at_] w fun e w' => e = .returned (.tuple #[.int .i64 (Pure.num ys).1, .int .i64 (Pure.num ys).2.1, .int .i64 (Pure.num ys).2.2]) ∧ w' = w := by
 have HN : Hid (at_ + ys.length = n) := hn
 have hatn : at_ <= n := by omega
 clear hn
 go_enter Tryz.func78, Tryz.ntmps78
 go_wp2
 go_loop [7, 8, 9] (fun v u i => ∃ k x z : Nat, k <= 5 ∧ i = .int .i64 k ∧ v = .int .i64 x ∧ u = .int .i64 z ∧ x < z ∧ Hid (z = 2 ^ (7 * k)) ∧ Hid (Pure.num ys = Pure.numGo ys (5 - k) k x)) (fun _ _ i => 5 - (intOf i).toNat)
 case atStart => exact ⟨0, 0, 1, by omega, rfl, rfl, rfl, by omega, rfl, rfl⟩
 case round =>
  obtain ⟨k, x, z, hk5, rfl, rfl, rfl, hxz, HZ, HR⟩ := hrel
  by_cases h5 : k = 5
  ·subst h5
   have HR' : Hid (Pure.num ys = (0, 0, 11)) := HR.out
   clear HR hc HZ
   go_wp2
   go_ret3
   exact ⟨ret_num (by rw [HR'.out]; rfl) (by rw [HR'.out]; rfl) (by rw [HR'.out]; rfl), rfl⟩
  ·obtain ⟨f, hf⟩ : ∃ f, 5 - k = f + 1 := ⟨4 - k, by omega⟩
   have hk4 : k < 5 := by omega
   have hz4 : z <= 268435456 := by rw [HZ.out]; exact Pure.pow_le4 (by omega)
   have HZ2 : Hid (z * 128 = 2 ^ (7 * (k + 1))) := by
    show _ = _
    rw [show 7 * (k + 1) = 7 * k + 7 by omega, Nat.pow_add, <-HZ.out]
   by_cases hlt : at_ + k < n
   ·have hky : k < ys.length := by have := HN.out; omega
    have hcell := hc k hky
    have hcb : (ys.getD k 0).toNat < 256 := UInt8.toNat_lt _
    clear hc
    by_cases h128 : (ys.getD k 0).toNat < 128
    ·obtain ⟨m, hmm⟩ : ∃ m, m = (ys.getD k 0).toNat * z := ⟨_, rfl⟩
     have hml : m <= 127 * 268435456 := by rw [hmm]; exact Nat.mul_le_mul (by omega) hz4
     have hsh : (((ys.getD k 0).toNat : Int) * (z : Int)) = (m : Int) := by rw [hmm]; simp
     have hmd : (((ys.getD k 0).toNat : Int) % 128) = ((ys.getD k 0).toNat : Int) := by omega
     by_cases hbad : 2147483647 < x + m ∨ (0 < k ∧ (ys.getD k 0).toNat = 0)
     ·have HR' : Hid (Pure.num ys = (0, 0, 11)) := by
       have := HR.out
       rw [hf, Pure.numGo_bad hky h128 (by rw [<-HZ.out, <-hmm]; exact hbad)] at this
       exact this
      clear HR hmm hf hky HZ HZ2
      generalize (ys.getD k 0).toNat = c at hcell hcb h128 hsh hbad hmd
      by_cases hz : c = 0 ∧ 0 < k
      ·obtain ⟨rfl, hk0⟩ := hz
       obtain rfl : m = 0 := by simp at hsh; omega
       clear hbad hmd hsh
       go_wp2
       go_ret3
       exact ⟨ret_num (by rw [HR'.out]; rfl) (by rw [HR'.out]; rfl) (by rw [HR'.out]; rfl), rfl⟩
      ·have hbig : 2147483647 < x + m := by omega
       by_cases hc0 : c = 0
       ·subst hc0
        obtain rfl : k = 0 := by omega
        obtain rfl : m = 0 := by simp at hsh; omega
        omega
       ·have b0 : ((c : Int) == 0) = false := by simp; omega
        clear hbad hz
        go_wp2
        go_ret3
        exact ⟨ret_num (by rw [HR'.out]; rfl) (by rw [HR'.out]; rfl) (by rw [HR'.out]; rfl), rfl⟩
     ·have HR' : Hid (Pure.num ys = (x + m, k + 1, 0)) := by
       have := HR.out
       rw [hf, Pure.numGo_good hky h128 (by rw [<-HZ.out, <-hmm]; exact hbad), <-HZ.out, <-hmm] at this
       exact this
      clear HR hmm hf hky HZ HZ2
      generalize (ys.getD k 0).toNat = c at hcell hcb h128 hsh hbad hmd
      have hsm : x + m <= 2147483647 := by omega
      by_cases hk0 : 0 < k
      ·have hc0 : ((c : Int) == 0) = false := by simp; omega
       clear hbad
       go_wp2
       go_ret3
       exact ⟨ret_num (by rw [HR'.out]; simp) (by rw [HR'.out]; simp) (by rw [HR'.out]; rfl), rfl⟩
      ·clear hbad
       by_cases hc0 : c = 0
       ·subst hc0
        obtain rfl : m = 0 := by simp at hsh; omega
        clear hsh hmd
        go_wp2
        go_ret3
        exact ⟨ret_num (by rw [HR'.out]; simp) (by rw [HR'.out]; simp) (by rw [HR'.out]; rfl), rfl⟩
       ·have b0 : ((c : Int) == 0) = false := by simp; omega
        go_wp2
        go_ret3
        exact ⟨ret_num (by rw [HR'.out]; simp) (by rw [HR'.out]; simp) (by rw [HR'.out]; rfl), rfl⟩
    ·obtain ⟨m, hmm⟩ : ∃ m, m = ((ys.getD k 0).toNat - 128) * z := ⟨_, rfl⟩
     have hml : m <= 127 * 268435456 := by rw [hmm]; exact Nat.mul_le_mul (by omega) hz4
     have hml2 : m <= 127 * z := by rw [hmm]; exact Nat.mul_le_mul (by omega) (Nat.le_refl _)
     obtain ⟨d, hd⟩ : ∃ d, d = (ys.getD k 0).toNat - 128 := ⟨_, rfl⟩
     have hmd : (((ys.getD k 0).toNat : Int) % 128) = (d : Int) := by omega
     have hsh : ((d : Int) * (z : Int)) = (m : Int) := by rw [hmm, hd]; simp
     have HR' : Hid (Pure.num ys = Pure.numGo ys (5 - (k + 1)) (k + 1) (x + m)) := by
      have := HR.out
      rw [hf, Pure.numGo_more hky h128, <-HZ.out, <-hmm] at this
      rw [show 5 - (k + 1) = f by omega]
      exact this
     have hd2 : d <= 127 := by omega
     clear HR hmm hf hd hky HZ
     generalize (ys.getD k 0).toNat = c at hcell hcb h128 hmd
     go_wp2
     go_round
     case rel => exact ⟨k + 1, x + m, z * 128, by omega, by go_num, by go_num, by go_num, by omega, HZ2, HR'⟩
     case measure => simp [intOf]; omega
   ·have HR' : Hid (Pure.num ys = (0, 0, 10)) := by
     have := HR.out
     rw [hf, Pure.numGo_short (by have := HN.out; omega)] at this
     exact this
    clear HR hc hf HZ HZ2
    go_wp2
    go_ret3
    exact ⟨ret_num (by rw [HR'.out]; rfl) (by rw [HR'.out]; rfl) (by rw [HR'.out]; rfl), rfl⟩
theorem refnum_none (ao : Option Addr) (cap : Nat) (w : World) :
  Calls Tryz.prog 78 #[.slice ao 0 cap, .int .i64 0] w fun e w' => e = .returned (.tuple #[.int .i64 (Pure.num []).1, .int .i64 (Pure.num []).2.1, .int .i64 (Pure.num []).2.2]) ∧ w' = w := by
 go_enter Tryz.func78, Tryz.ntmps78
 go_wp2
 go_loop [7, 8, 9] (fun v u i => i = .int .i64 0 ∧ v = .int .i64 0 ∧ u = .int .i64 1) (fun _ _ i => 0)
 case atStart => exact ⟨rfl, rfl, rfl⟩
 case round =>
  obtain ⟨rfl, rfl, rfl⟩ := hrel
  go_wp2
  go_ret3
  exact ⟨ret_num rfl rfl rfl, rfl⟩
theorem refnum_any (ao : Option Addr) (n cap at_ : Nat) (xs : List UInt8) (w : World) (hn : xs.length = n) (hat : at_ <= n) (hm : n <= 140737488355328) (h : Sl w ao xs) {v k c : Nat} (hr : Pure.num (xs.drop at_) = (v, k, c)) :
  Calls Tryz.prog 78 #[.slice ao n cap, .int .i64 at_] w fun e w' => e = .returned (.tuple #[.int .i64 v, .int .i64 k, .int .i64 c]) ∧ w' = w := by
 by_cases h0 : xs = []
 ·subst h0
  obtain rfl : n = 0 := by simpa using hn.symm
  obtain rfl : at_ = 0 := by omega
  have := refnum_none ao cap w
  rw [show (List.drop 0 ([] : List UInt8)) = [] from rfl] at hr
  rw [hr] at this
  exact this
 ·obtain ⟨b, off, rfl, hb, hc⟩ := h.open h0
  have := refnum_some b off n cap at_ (xs.drop at_) w (by simp; omega) hm (fun i hi => by
   simp only [List.length_drop] at hi
   rw [hc (at_ + i) (by omega)]
   simp [List.getElem?_drop])
  rw [hr] at this
  exact this
end

section
theorem takenum_bad {w : World} {b : Nat} {ao : Option Addr} {cap : Nat} {xs : List UInt8} {at_ : Nat} {c p : Int} (h : Rf w b ao cap xs at_ c p) (he : c ≠ 0) :
  Calls Tryz.prog 34 #[.pointer (some ⟨b, 0, none⟩)] w fun e' w' => e' = .returned (.int .i64 0) ∧ w' = w := by
 have h2 := h.c2
 have hne : (c != 0) = true := by simpa using he
 clear h
 go_enter Tryz.func34, Tryz.ntmps34
 go_wp2
 go_ret
 exact ⟨rfl, rfl⟩
theorem takenum_as {w : World} {b : Nat} {ao : Option Addr} {cap : Nat} {xs : List UInt8} {at_ : Nat} {p : Int} (h : Rf w b ao cap xs at_ 0 p) {v k : Nat} (hr : Pure.num (xs.drop at_) = (v, k, 0)) :
  Calls Tryz.prog 34 #[.pointer (some ⟨b, 0, none⟩)] w fun e' w' => e' = .returned (.int .i64 v) ∧ Kept [b] w w' ∧ Rf w' b ao cap xs (at_ + k) 0 p := by
 have hf := Pure.num_facts (xs.drop at_)
 rw [hr] at hf
 simp only [List.length_drop] at hf
 have hk : k <= 5 ∧ at_ + k <= xs.length := by have := h.le; omega
 obtain ⟨hk5, hkn⟩ := hk
 have HR : Hid (Pure.num (xs.drop at_) = (v, k, 0)) := hr
 have h0 := h.c0
 have h1 := h.c1
 have h2 := h.c2
 have f1 := h.f1
 have hs := h.small
 have hl := h.le
 have H := (show Hid (Rf w b ao cap xs at_ 0 p) from h)
 clear h hr hf
 go_enter Tryz.func34, Tryz.ntmps34
 go_wp2
 go_quiet ((go_at_call 78; exact Calls.quiet_of_same (refnum_any ao xs.length cap at_ xs _ rfl hl hs (H.out.sl.drewN _) HR.out)))
 go_wp2
 go_ret
 refine ⟨rfl, ((Kept.refl [b] w).drewN nq).setCell (by simp) _, ?_⟩
 have := (H.out.drewN nq).moved (at_ + k) hkn
 simpa using this
theorem takenum_no {w : World} {b : Nat} {ao : Option Addr} {cap : Nat} {xs : List UInt8} {at_ : Nat} {p : Int} (h : Rf w b ao cap xs at_ 0 p) {v k c : Nat} (hr : Pure.num (xs.drop at_) = (v, k, c)) (hc : c ≠ 0) :
  Calls Tryz.prog 34 #[.pointer (some ⟨b, 0, none⟩)] w fun e' w' => e' = .returned (.int .i64 0) ∧ Kept [b] w w' ∧ Rf w' b ao cap xs at_ c at_ := by
 have HR : Hid (Pure.num (xs.drop at_) = (v, k, c)) := hr
 have hne : ((c : Int) != 0) = true := by simp [hc]
 have h0 := h.c0
 have h1 := h.c1
 have h2 := h.c2
 have hs := h.small
 have hl := h.le
 have H := (show Hid (Rf w b ao cap xs at_ 0 p) from h)
 clear h hr hc
 go_enter Tryz.func34, Tryz.ntmps34
 go_wp2
 go_quiet ((go_at_call 78; exact Calls.quiet_of_same (refnum_any ao xs.length cap at_ xs _ rfl hl hs (H.out.sl.drewN _) HR.out)))
 go_wp2_with (go_at_call 77; refine (spoil_any (H.out.drewN _) _).mono ?_; rintro e w1 ⟨rfl, hk1, hr1⟩)
 go_ret
 exact ⟨rfl, ((Kept.refl [b] w).drewN nq).tr hk1, hr1⟩
theorem takefix_bad {w : World} {b : Nat} {ao : Option Addr} {cap : Nat} {xs : List UInt8} {at_ : Nat} {c p : Int} (h : Rf w b ao cap xs at_ c p) (he : c ≠ 0) (n : Int) :
  Calls Tryz.prog 33 #[.pointer (some ⟨b, 0, none⟩), .int .i64 n] w fun e' w' => e' = .returned (.int .i64 0) ∧ w' = w := by
 have h2 := h.c2
 have hne : (c != 0) = true := by simpa using he
 clear h
 go_enter Tryz.func33, Tryz.ntmps33
 go_wp2
 go_ret
 exact ⟨rfl, rfl⟩
theorem takefix_arg {w : World} {b : Nat} {ao : Option Addr} {cap : Nat} {xs : List UInt8} {at_ : Nat} {p : Int} (h : Rf w b ao cap xs at_ 0 p) (n : Int) (hn : n < 1 ∨ 4 < n) :
  Calls Tryz.prog 33 #[.pointer (some ⟨b, 0, none⟩), .int .i64 n] w fun e' w' => e' = .returned (.int .i64 0) ∧ Kept [b] w w' ∧ Rf w' b ao cap xs at_ 1 at_ := by
 have h2 := h.c2
 have H := (show Hid (Rf w b ao cap xs at_ 0 p) from h)
 clear h
 by_cases hlow : n < 1
 ·clear hn
  go_enter Tryz.func33, Tryz.ntmps33
  go_wp2_with (go_at_call 77; refine (spoil_any H.out _).mono ?_; rintro e w1 ⟨rfl, hk1, hr1⟩)
  go_ret
  exact ⟨rfl, hk1, hr1⟩
 ·have d1 : decide (n < 1) = false := by simpa using hlow
  have hhi : 4 < n := by omega
  clear hn
  go_enter Tryz.func33, Tryz.ntmps33
  go_wp2_with (go_at_call 77; refine (spoil_any H.out _).mono ?_; rintro e w1 ⟨rfl, hk1, hr1⟩)
  go_ret
  exact ⟨rfl, hk1, hr1⟩
theorem takefix_short {w : World} {b : Nat} {ao : Option Addr} {cap : Nat} {xs : List UInt8} {at_ : Nat} {p : Int} (h : Rf w b ao cap xs at_ 0 p) (n : Int) (hn0 : 1 <= n) (hn4 : n <= 4) (hn : (xs.length - at_ : Nat) < n) :
  Calls Tryz.prog 33 #[.pointer (some ⟨b, 0, none⟩), .int .i64 n] w fun e' w' => e' = .returned (.int .i64 0) ∧ Kept [b] w w' ∧ Rf w' b ao cap xs at_ 10 at_ := by
 have h0 := h.c0
 have h1 := h.c1
 have h2 := h.c2
 have hs := h.small
 have hl := h.le
 have H := (show Hid (Rf w b ao cap xs at_ 0 p) from h)
 clear h
 go_enter Tryz.func33, Tryz.ntmps33
 go_wp2
 go_quiet (fail)
 go_wp2_with (go_at_call 77; refine (spoil_any (H.out.drewN _) _).mono ?_; rintro e w1 ⟨rfl, hk1, hr1⟩)
 go_ret
 exact ⟨rfl, ((Kept.refl [b] w).drewN nq).tr hk1, hr1⟩
end

section
theorem takefix_ok {w : World} {b : Nat} {ao : Option Addr} {cap : Nat} {xs : List UInt8} {at_ : Nat} {p : Int} (h : Rf w b ao cap xs at_ 0 p) (n : Nat) (hn0 : 1 <= n) (hn4 : n <= 4) (hn : n <= xs.length - at_) :
  Calls Tryz.prog 33 #[.pointer (some ⟨b, 0, none⟩), .int .i64 n] w fun e' w' => e' = .returned (.int .i64 (Pure.be ((xs.drop at_).take n))) ∧ Kept [b] w w' ∧ Rf w' b ao cap xs (at_ + n) 0 p := by
 have h0 := h.c0
 have h1 := h.c1
 have h2 := h.c2
 have f1 := h.f1
 have hs := h.small
 have hl := h.le
 have H := (show Hid (Rf w b ao cap xs at_ 0 p) from h)
 clear h
 obtain ⟨g, off, hao, hb, hc⟩ := H.out.sl.open (by rintro rfl; simp at hn; omega)
 rw [hao] at h0
 have HAO : Hid (ao = some ⟨g, off, none⟩) := hao
 obtain ⟨L, hL⟩ := nm (xs.length)
 rw [hL] at h0 hn hs hl
 have HL : Hid (xs.length = L) := hL
 clear hao hL
 obtain ⟨ys, hys⟩ := nm ((xs.drop at_).take n)
 have HY : Hid ((xs.drop at_).take n = ys) := hys
 have hlen : ys.length = n := by rw [<-hys]; have := HL.out; simp; omega
 have hcy : ∀ i, i < n -> w.cell? ⟨g, off + (at_ + i), none⟩ = some (.int .u8 (ys.getD i 0).toNat) := fun i hi => by
  rw [hc (at_ + i) (by have := HL.out; omega), <-hys]
  simp [List.getElem?_drop, List.getElem?_take, hi]
 have HYL : Hid (ys.length = n) := hlen
 clear hys hc hlen
 go_enter Tryz.func33, Tryz.ntmps33
 go_wp2
 go_quiet (fail)
 go_wp2
 go_loopw [5, 6] (fun v i wr => ∃ k j : Nat, k <= n ∧ i = .int .i64 k ∧ v = .int .i64 (Pure.be (ys.take k)) ∧ wr = w.drewN j) (fun v i wr => n - (intOf i).toNat)
 case atStart => exact ⟨0, nq, Nat.zero_le _, rfl, rfl, rfl⟩
 case round =>
  obtain ⟨k, j, hk, rfl, rfl, hwr⟩ := hrel
  subst hwr
  by_cases hlt : k < n
  ·have hcell := hcy k hlt
   have hcb : (ys.getD k 0).toNat < 256 := UInt8.toNat_lt _
   have hbe := Pure.be_lt (ys.take k)
   have hlk : (ys.take k).length <= 3 := by simp; omega
   have hbe3 : Pure.be (ys.take k) < 16777216 := Nat.lt_of_lt_of_le hbe (Nat.pow_le_pow_right (n := 256) (by omega) hlk)
   have HS : Hid (Pure.be (ys.take (k + 1)) = 256 * Pure.be (ys.take k) + (ys.getD k 0).toNat) := by
    show _ = _
    rw [Pure.take_snoc ys 0 k (by rw [HYL.out]; exact hlt), Pure.be_snoc]
   clear hbe hlk
   generalize Pure.be (ys.take k) = v at hbe3 HS ⊢
   generalize (ys.getD k 0).toNat = c at hcell hcb HS
   clear hcy
   go_wp2
   go_quiet (fail)
   go_wp2
   go_roundw
   case rel => exact ⟨k + 1, _, by omega, by go_num, by rw [HS.out]; go_num, rfl⟩
   case measure => simp [intOf]; omega
  ·have HT : Hid (ys.take k = ys) := List.take_of_length_le (by rw [HYL.out]; omega)
   clear hcy
   go_wp2
   go_ret
   refine ⟨ret_int (by rw [HY.out, HT.out]), ((Kept.refl [b] w).drewN j).setCell (by simp) _, ?_⟩
   have := (H.out.drewN j).moved (at_ + n) (by rw [HL.out]; omega)
   simpa using this
theorem takeraw_bad {w : World} {b : Nat} {ao : Option Addr} {cap : Nat} {xs : List UInt8} {at_ : Nat} {c p : Int} (h : Rf w b ao cap xs at_ c p) (he : c ≠ 0) (n : Int) :
  Calls Tryz.prog 37 #[.pointer (some ⟨b, 0, none⟩), .int .i64 n] w fun e' w' => e' = .returned (.slice none 0 0) ∧ w' = w := by
 have h2 := h.c2
 have hne : (c != 0) = true := by simpa using he
 clear h
 go_enter Tryz.func37, Tryz.ntmps37
 go_wp2
 go_ret
 exact ⟨rfl, rfl⟩
theorem takeraw_neg {w : World} {b : Nat} {ao : Option Addr} {cap : Nat} {xs : List UInt8} {at_ : Nat} {p : Int} (h : Rf w b ao cap xs at_ 0 p) (n : Int) (hn : n < 0) :
  Calls Tryz.prog 37 #[.pointer (some ⟨b, 0, none⟩), .int .i64 n] w fun e' w' => e' = .returned (.slice none 0 0) ∧ Kept [b] w w' ∧ Rf w' b ao cap xs at_ 1 at_ := by
 have h2 := h.c2
 have H := (show Hid (Rf w b ao cap xs at_ 0 p) from h)
 clear h
 go_enter Tryz.func37, Tryz.ntmps37
 go_wp2_with (go_at_call 77; refine (spoil_any H.out _).mono ?_; rintro e w1 ⟨rfl, hk1, hr1⟩)
 go_ret
 exact ⟨rfl, hk1, hr1⟩
theorem takeraw_short {w : World} {b : Nat} {ao : Option Addr} {cap : Nat} {xs : List UInt8} {at_ : Nat} {p : Int} (h : Rf w b ao cap xs at_ 0 p) (n : Int) (hn0 : 0 <= n) (hn : (xs.length - at_ : Nat) < n) :
  Calls Tryz.prog 37 #[.pointer (some ⟨b, 0, none⟩), .int .i64 n] w fun e' w' => e' = .returned (.slice none 0 0) ∧ Kept [b] w w' ∧ Rf w' b ao cap xs at_ 10 at_ := by
 have h0 := h.c0
 have h1 := h.c1
 have h2 := h.c2
 have hs := h.small
 have hl := h.le
 have H := (show Hid (Rf w b ao cap xs at_ 0 p) from h)
 clear h
 go_enter Tryz.func37, Tryz.ntmps37
 go_wp2
 go_quiet (fail)
 go_wp2_with (go_at_call 77; refine (spoil_any (H.out.drewN _) _).mono ?_; rintro e w1 ⟨rfl, hk1, hr1⟩)
 go_ret
 exact ⟨rfl, ((Kept.refl [b] w).drewN nq).tr hk1, hr1⟩
theorem cut_any (ao : Option Addr) (L cap m : Nat) (hm : m <= L) (hc : L <= cap) : ∃ ao' : Option Addr, (∀ W, (Instr.slice 27 (.slice ao L cap) (some (.int .i64 m)) none none).run Tryz.prog W = .ok (.slice ao' (L - m) (cap - m)) W) ∧ ∀ (w : World) (xs : List UInt8), xs.length = L -> Sl w ao xs -> Sl w ao' (xs.drop m) := by
 have hz : ∀ W, (sizeOf (Tryz.prog.elem 27)).run Tryz.prog W = .ok 1 W := fun W => by kernel_rfl
 have h := fun W => run_slice_l (P := Tryz.prog) W 27 ao L cap (by kernel_rfl) .i64 m (by omega) (by omega)
 cases ao with
 | none =>
  refine ⟨none, fun W => ?_, fun w xs hx hs => ?_⟩
  ·rw [h W, hz]
   simp [sliced]
  ·have : xs = [] := by
    by_cases h0 : xs = []
    ·exact h0
    ·obtain ⟨_, _, e, _⟩ := hs.open h0
     cases e
   subst this
   simpa using Sl.nil w none
 | some a =>
  refine ⟨if cap = m then some a else some (a.add m), fun W => ?_, fun w xs hx hs => ?_⟩
  ·rw [h W, hz]
   by_cases hcm : cap = m <;> simp [sliced, hcm]
  ·by_cases h0 : xs.drop m = []
   ·rw [h0]; exact Sl.nil _ _
   ·have hx0 : xs ≠ [] := by rintro rfl; simp at h0
    obtain ⟨g, off, e, _, _⟩ := hs.open hx0
    cases e
    have := hs.drop m cap (by omega) (by omega)
    rw [Addr.add_mid]
    exact this
theorem takeraw_ok {w : World} {b : Nat} {ao : Option Addr} {cap : Nat} {xs : List UInt8} {at_ : Nat} {p : Int} (h : Rf w b ao cap xs at_ 0 p) (n : Nat) (hn : n <= xs.length - at_) :
  Calls Tryz.prog 37 #[.pointer (some ⟨b, 0, none⟩), .int .i64 n] w fun e' w' => ∃ ao' cap', e' = .returned (.slice ao' n cap') ∧ Fresh w w' ao' cap' ((xs.drop at_).take n) ∧ Kept [b] w w' ∧ Rf w' b ao cap xs (at_ + n) 0 p := by
 have h0 := h.c0
 have h1 := h.c1
 have h2 := h.c2
 have f1 := h.f1
 have hs := h.small
 have hl := h.le
 have hlc := h.lc
 obtain ⟨i0, hi, hz0, hz1, hz2⟩ := info_parts Tryz.infoByte
 have H := (show Hid (Rf w b ao cap xs at_ 0 p) from h)
 clear h
 obtain ⟨L, hL⟩ := nm (xs.length)
 rw [hL] at h0 hn hs hl hlc
 have HL : Hid (xs.length = L) := hL
 clear hL
 go_enter Tryz.func37, Tryz.ntmps37
 go_wp2
 go_quiet (fail)
 go_wp2_with (at_make; refine wpList_make_full _ rfl _ _ 27 rfl w.heap.size 5 i0 (.int .u8 0) 1 Tryz.underlying27 hi hz0 hz1 .i64 .i64 n n n rfl rfl rfl rfl ?c1 ?c2 ?c3 ?_)
 case c1 => rw [hz2]; omega
 case c2 => unfold maxLen; omega
 case c3 => simp
 intro w1 hown hgrow
 have hB1 : Below w.heap.size w w1 := (Below.refl _ _).grown (w' := w1) (row := none) ⟨hgrow.os, hgrow.tape, hgrow.output, hgrow.size, hgrow.block⟩ (Nat.le_refl _) (by simp)
 obtain ⟨C, hClen, hrow⟩ : ∃ C : List Value, C.length = n ∧ w1.heap[w.heap.size]? = some (.cells C.toArray 5 (0, 0)) := by
  rcases hown.2 with ⟨h, _⟩ | ⟨g, cap, cur, hv, _, hg, _, _, hsz, _⟩
  ·cases h
  ·cases hv
   exact ⟨cur.toList, by simpa using hsz, by simpa using hg⟩
 clear hown hgrow
 have hbw : b < w.heap.size := H.out.lt
 have h01 : w1.cell? ⟨b, 0, none⟩ = some (.slice ao L cap) := (hB1.cell (p := ⟨b, 0, none⟩) hbw).trans h0
 have h11 : w1.cell? ⟨b, 1, none⟩ = some (.int .i64 at_) := (hB1.cell (p := ⟨b, 1, none⟩) hbw).trans h1
 obtain ⟨ao2, hcut, hcutS⟩ := cut_any ao L cap at_ hl hlc
 have HCS : Hid (∀ (w : World) (xs : List UInt8), xs.length = L -> Sl w ao xs -> Sl w ao2 (xs.drop at_)) := hcutS
 clear hcutS h0 h1 h2 f1
 go_wp2
 go_still_tail 10, Tryz.follows
 rw [World.drew_eq]
 have hlen : ((xs.drop at_).take n).length = n := by have := HL.out; simp; omega
 refine wpList_copy_splice rfl (.tmp 31) (.tmp 40) 27 27 rfl 5 Tryz.underlying27 Tryz.sizeByte (some ⟨w.heap.size, 0, none⟩) ao2 n n (L - at_) (cap - at_) rfl rfl w.heap.size 0 C 5 hrow (bys ((xs.drop at_).take n)) (by rw [bys_length, hlen]; simp only [Nat.min_def]; split <;> omega) ?k1 (by rw [bys_length, hlen]; omega) (bys_oneCell _) w.heap.size w hB1.drew (Nat.le_refl _) ?_
 case k1 =>
  intro hpos
  rw [bys_length, hlen] at hpos
  have hsl : Sl w1 ao2 (xs.drop at_) := HCS.out w1 xs HL.out (H.out.sl.kept (Kept.of_below hB1) (by simp))
  obtain ⟨g2, o2, e2, hb2, hc2⟩ := (hsl.take n).open (by rintro h; rw [h] at hlen; simp at hlen; omega)
  refine ⟨rfl, ⟨g2, o2, none⟩, e2, fun j u hu => ?_⟩
  obtain ⟨hj, rfl⟩ := bys_get hu
  rw [Addr.add_mid, World.cell?_drew]
  exact hc2 j hj
 intro w3 hR3 hB3
 have HR3 : Hid (w3.heap[w.heap.size]? = some (.cells (bys ((xs.drop at_).take n)).toArray 5 (0, 0))) := by
  have h1 := hR3.out
  obtain ⟨h2, h3⟩ := splice_drop C (bys ((xs.drop at_).take n)) 0 n (by rw [bys_length, hlen]; omega) (by omega)
  rw [List.drop_zero, List.drop_of_length_le (l := C) (by omega), List.append_nil] at h2
  rw [h2] at h1
  exact h1
 have h31 : w3.cell? ⟨b, 1, none⟩ = some (.int .i64 at_) := (hB3.cell (p := ⟨b, 1, none⟩) hbw).trans H.out.c1
 have f31 : w3.frozen? ⟨b, 1, none⟩ = false := ((Kept.of_below hB3).frozen (p := ⟨b, 1, none⟩) hbw (by simp)).trans H.out.f1
 have HK : Hid (Kept [] w w3) := Kept.of_below hB3
 clear hR3 hB3 hrow hB1 hcut h01 h11
 go_wp2
 go_ret
 have hrf := (H.out.kept HK.out (by simp) (by simp)).moved (at_ + n) (by rw [HL.out]; omega)
 have hkk : Kept [b] w3 (w3.setCell ⟨b, 1, none⟩ (.int .i64 ((at_ + n : Nat) : Int))) := (Kept.refl [b] w3).setCell (by simp) _
 have hrl := (gs HR3.out).1
 refine ⟨some ⟨w.heap.size, 0, none⟩, n, rfl, ⟨?_, by omega, by simp, fun a ha => by cases ha; exact ⟨Nat.le_refl _, Nat.lt_of_lt_of_le hrl (by simp [World.setCell]), rfl⟩⟩, ?_, ?_⟩
 ·have h5 : Sl w3 (some ⟨w.heap.size, 0, none⟩) ((xs.drop at_).take n) := Sl.of fun i hi => by
   rw [cell_of_row w3 _ _ _ _ _ HR3.out, Nat.zero_add]
   simpa using bys_at hi
  have h6 := h5.kept hkk (fun _ a ha => by cases ha; simp; omega)
  simpa using h6
 ·have h7 := (HK.out.mono (l2 := [b]) (by simp)).tr hkk
  simpa using h7
 ·simpa using hrf
end

section
theorem taketext_bad {w : World} {b : Nat} {ao : Option Addr} {cap : Nat} {xs : List UInt8} {at_ : Nat} {c p : Int} (h : Rf w b ao cap xs at_ c p) (he : c ≠ 0) (n : Int) :
  Calls Tryz.prog 79 #[.pointer (some ⟨b, 0, none⟩), .int .i64 n] w fun e' w' => e' = .returned (.slice none 0 0) ∧ w' = w := by
 have h2 := h.c2
 have hne : (c != 0) = true := by simpa using he
 clear h
 go_enter Tryz.func79, Tryz.ntmps79
 go_wp2
 go_ret
 exact ⟨rfl, rfl⟩
theorem taketext_neg {w : World} {b : Nat} {ao : Option Addr} {cap : Nat} {xs : List UInt8} {at_ : Nat} {p : Int} (h : Rf w b ao cap xs at_ 0 p) (n : Int) (hn : n < 0) :
  Calls Tryz.prog 79 #[.pointer (some ⟨b, 0, none⟩), .int .i64 n] w fun e' w' => e' = .returned (.slice none 0 0) ∧ Kept [b] w w' ∧ Rf w' b ao cap xs at_ 1 at_ := by
 have h2 := h.c2
 have H := (show Hid (Rf w b ao cap xs at_ 0 p) from h)
 clear h
 go_enter Tryz.func79, Tryz.ntmps79
 go_wp2_with (go_at_call 77; refine (spoil_any H.out _).mono ?_; rintro e w1 ⟨rfl, hk1, hr1⟩)
 go_ret
 exact ⟨rfl, hk1, hr1⟩
theorem taketext_form {w : World} {b : Nat} {ao : Option Addr} {cap : Nat} {xs : List UInt8} {at_ : Nat} {p : Int} (h : Rf w b ao cap xs at_ 0 p) (most : Int) (hn : 0 <= most) {v k c : Nat} (hr : Pure.num (xs.drop at_) = (v, k, c)) (hc : c ≠ 0) :
  Calls Tryz.prog 79 #[.pointer (some ⟨b, 0, none⟩), .int .i64 most] w fun e' w' => e' = .returned (.slice none 0 0) ∧ Kept [b] w w' ∧ Rf w' b ao cap xs at_ c at_ := by
 have HR : Hid (Pure.num (xs.drop at_) = (v, k, c)) := hr
 have hne : ((c : Int) != 0) = true := by simp [hc]
 have h0 := h.c0
 have h1 := h.c1
 have h2 := h.c2
 have hs := h.small
 have hl := h.le
 have H := (show Hid (Rf w b ao cap xs at_ 0 p) from h)
 clear h hr hc
 go_enter Tryz.func79, Tryz.ntmps79
 go_wp2
 go_quiet ((go_at_call 78; exact Calls.quiet_of_same (refnum_any ao xs.length cap at_ xs _ rfl hl hs (H.out.sl.drewN _) HR.out)))
 go_wp2_with (go_at_call 77; refine (spoil_any (H.out.drewN _) _).mono ?_; rintro e w1 ⟨rfl, hk1, hr1⟩)
 go_ret
 exact ⟨rfl, ((Kept.refl [b] w).drewN nq).tr hk1, hr1⟩
theorem taketext_long {w : World} {b : Nat} {ao : Option Addr} {cap : Nat} {xs : List UInt8} {at_ : Nat} {p : Int} (h : Rf w b ao cap xs at_ 0 p) (most : Int) (hn : 0 <= most) {v k : Nat} (hr : Pure.num (xs.drop at_) = (v, k, 0)) (hv : most < v) :
  Calls Tryz.prog 79 #[.pointer (some ⟨b, 0, none⟩), .int .i64 most] w fun e' w' => e' = .returned (.slice none 0 0) ∧ Kept [b] w w' ∧ Rf w' b ao cap xs at_ 2 at_ := by
 have HR : Hid (Pure.num (xs.drop at_) = (v, k, 0)) := hr
 have h0 := h.c0
 have h1 := h.c1
 have h2 := h.c2
 have hs := h.small
 have hl := h.le
 have H := (show Hid (Rf w b ao cap xs at_ 0 p) from h)
 clear h hr
 go_enter Tryz.func79, Tryz.ntmps79
 go_wp2
 go_quiet ((go_at_call 78; exact Calls.quiet_of_same (refnum_any ao xs.length cap at_ xs _ rfl hl hs (H.out.sl.drewN _) HR.out)))
 go_wp2_with (go_at_call 77; refine (spoil_any (H.out.drewN _) _).mono ?_; rintro e w1 ⟨rfl, hk1, hr1⟩)
 go_ret
 exact ⟨rfl, ((Kept.refl [b] w).drewN nq).tr hk1, hr1⟩
theorem taketext_short {w : World} {b : Nat} {ao : Option Addr} {cap : Nat} {xs : List UInt8} {at_ : Nat} {p : Int} (h : Rf w b ao cap xs at_ 0 p) (most : Int) (hn : 0 <= most) {v k : Nat} (hr : Pure.num (xs.drop at_) = (v, k, 0)) (hv : v <= most) (hsh : xs.length - (at_ + k) < v) :
  Calls Tryz.prog 79 #[.pointer (some ⟨b, 0, none⟩), .int .i64 most] w fun e' w' => e' = .returned (.slice none 0 0) ∧ Kept [b] w w' ∧ Rf w' b ao cap xs at_ 10 at_ := by
 have hf := Pure.num_facts (xs.drop at_)
 rw [hr] at hf
 simp only [List.length_drop] at hf
 have hk : k <= 5 ∧ at_ + k <= xs.length := by have := h.le; omega
 obtain ⟨hk5, hkn⟩ := hk
 have HR : Hid (Pure.num (xs.drop at_) = (v, k, 0)) := hr
 have h0 := h.c0
 have h1 := h.c1
 have h2 := h.c2
 have hs := h.small
 have hl := h.le
 have H := (show Hid (Rf w b ao cap xs at_ 0 p) from h)
 clear h hr hf
 go_enter Tryz.func79, Tryz.ntmps79
 go_wp2
 go_quiet ((go_at_call 78; exact Calls.quiet_of_same (refnum_any ao xs.length cap at_ xs _ rfl hl hs (H.out.sl.drewN _) HR.out)))
 obtain ⟨m, hm⟩ : ∃ m, m = nq := ⟨_, rfl⟩
 rw [<-hm]
 clear hm nq
 go_wp2
 go_quiet (fail)
 go_wp2_with (go_at_call 77; refine (spoil_any (H.out.drewN _) _).mono ?_; rintro e w1 ⟨rfl, hk1, hr1⟩)
 go_ret
 exact ⟨rfl, ((Kept.refl [b] w).drewN _).tr hk1, hr1⟩
theorem taketext_ok {w : World} {b : Nat} {ao : Option Addr} {cap : Nat} {xs : List UInt8} {at_ : Nat} {p : Int} (h : Rf w b ao cap xs at_ 0 p) (most : Int) (hmo : 0 <= most) {n k : Nat} (hr : Pure.num (xs.drop at_) = (n, k, 0)) (hv : n <= most) (hn : n <= xs.length - (at_ + k)) :
  Calls Tryz.prog 79 #[.pointer (some ⟨b, 0, none⟩), .int .i64 most] w fun e' w' => ∃ ao' cap', e' = .returned (.slice ao' n cap') ∧ Fresh w w' ao' cap' ((xs.drop (at_ + k)).take n) ∧ Kept [b] w w' ∧ Rf w' b ao cap xs (at_ + k + n) 0 p := by
 have hf := Pure.num_facts (xs.drop at_)
 rw [hr] at hf
 simp only [List.length_drop] at hf
 have hk : k <= 5 ∧ at_ + k <= xs.length ∧ n <= 2147483647 := by have := h.le; omega
 obtain ⟨hk5, hkn, hn31⟩ := hk
 have HR : Hid (Pure.num (xs.drop at_) = (n, k, 0)) := hr
 have h0 := h.c0
 have h1 := h.c1
 have h2 := h.c2
 have f1 := h.f1
 have hs := h.small
 have hl := h.le
 have hlc := h.lc
 obtain ⟨i0, hi, hz0, hz1, hz2⟩ := info_parts Tryz.infoByte
 have H := (show Hid (Rf w b ao cap xs at_ 0 p) from h)
 clear h hr hf
 obtain ⟨L, hL⟩ := nm (xs.length)
 rw [hL] at h0 hn hs hl hlc hkn
 have HL : Hid (xs.length = L) := hL
 clear hL
 go_enter Tryz.func79, Tryz.ntmps79
 go_wp2
 go_quiet ((go_at_call 78; exact Calls.quiet_of_same (refnum_any ao L cap at_ xs _ HL.out hl hs (H.out.sl.drewN _) HR.out)))
 obtain ⟨m0, hm0⟩ : ∃ m0, m0 = nq := ⟨_, rfl⟩
 rw [<-hm0]
 clear hm0 nq
 go_wp2
 go_quiet (fail)
 go_wp2_with (at_make; refine wpList_make_full _ rfl _ _ 27 rfl w.heap.size 5 i0 (.int .u8 0) 1 Tryz.underlying27 hi hz0 hz1 .i64 .i64 n n n rfl rfl rfl rfl ?c1 ?c2 ?c3 ?_)
 case c1 => rw [hz2]; omega
 case c2 => unfold maxLen; omega
 case c3 => simp
 intro w1 hown hgrow
 have hB1 : Below w.heap.size w w1 := (Below.refl _ _).grown (w' := w1) (row := none) ⟨hgrow.os, hgrow.tape, hgrow.output, hgrow.size, hgrow.block⟩ (Nat.le_refl _) (by simp)
 obtain ⟨C, hClen, hrow⟩ : ∃ C : List Value, C.length = n ∧ w1.heap[w.heap.size]? = some (.cells C.toArray 5 (0, 0)) := by
  rcases hown.2 with ⟨h, _⟩ | ⟨g, cap, cur, hv, _, hg, _, _, hsz, _⟩
  ·cases h
  ·cases hv
   exact ⟨cur.toList, by simpa using hsz, by simpa using hg⟩
 clear hown hgrow
 have hbw : b < w.heap.size := H.out.lt
 have h01 : w1.cell? ⟨b, 0, none⟩ = some (.slice ao L cap) := (hB1.cell (p := ⟨b, 0, none⟩) hbw).trans h0
 have h11 : w1.cell? ⟨b, 1, none⟩ = some (.int .i64 at_) := (hB1.cell (p := ⟨b, 1, none⟩) hbw).trans h1
 obtain ⟨ao2, hcut, hcutS⟩ := cut_any ao L cap (at_ + k) hkn hlc
 have HCS : Hid (∀ (w : World) (xs : List UInt8), xs.length = L -> Sl w ao xs -> Sl w ao2 (xs.drop (at_ + k))) := hcutS
 clear hcutS h0 h1 h2 f1
 have hcut2 : ∀ W, (Instr.slice 27 (.slice ao L cap) (some (.int .i64 ((at_ : Int) + (k : Int)))) none none).run Tryz.prog W = .ok (.slice ao2 (L - (at_ + k)) (cap - (at_ + k))) W := fun W => by
  have := hcut W
  rwa [Int.natCast_add] at this
 clear hcut
 have hq : ∃ q : Nat, at_ + k = q := ⟨_, rfl⟩
 obtain ⟨q, hq⟩ := hq
 have hwr : IntKind.i64.wrap ((at_ : Int) + (k : Int)) = (q : Int) := by simp [IntKind.wrap, IntKind.bits, IntKind.signed]; split <;> omega
 have hcut3 : ∀ W, (Instr.slice 27 (.slice ao L cap) (some (.int .i64 (q : Int))) none none).run Tryz.prog W = .ok (.slice ao2 (L - (at_ + k)) (cap - (at_ + k))) W := fun W => by
  have := hcut2 W
  rwa [show ((at_ : Int) + (k : Int)) = (q : Int) by omega] at this
 clear hcut2 hq
 go_wp2
 go_still_tail 12, Tryz.follows
 rw [World.drew_eq]
 have hlen : ((xs.drop (at_ + k)).take n).length = n := by have := HL.out; simp; omega
 refine wpList_copy_splice rfl (.tmp 59) (.tmp 70) 27 27 rfl 5 Tryz.underlying27 Tryz.sizeByte (some ⟨w.heap.size, 0, none⟩) ao2 n n (L - (at_ + k)) (cap - (at_ + k)) rfl rfl w.heap.size 0 C 5 hrow (bys ((xs.drop (at_ + k)).take n)) (by rw [bys_length, hlen]; simp only [Nat.min_def]; split <;> omega) ?k1 (by rw [bys_length, hlen]; omega) (bys_oneCell _) w.heap.size w hB1.drew (Nat.le_refl _) ?_
 case k1 =>
  intro hpos
  rw [bys_length, hlen] at hpos
  have hsl : Sl w1 ao2 (xs.drop (at_ + k)) := HCS.out w1 xs HL.out (H.out.sl.kept (Kept.of_below hB1) (by simp))
  obtain ⟨g2, o2, e2, hb2, hc2⟩ := (hsl.take n).open (by rintro h; rw [h] at hlen; simp at hlen; omega)
  refine ⟨rfl, ⟨g2, o2, none⟩, e2, fun j u hu => ?_⟩
  obtain ⟨hj, rfl⟩ := bys_get hu
  rw [Addr.add_mid, World.cell?_drew]
  exact hc2 j hj
 intro w3 hR3 hB3
 have HR3 : Hid (w3.heap[w.heap.size]? = some (.cells (bys ((xs.drop (at_ + k)).take n)).toArray 5 (0, 0))) := by
  have h1 := hR3.out
  obtain ⟨h2, h3⟩ := splice_drop C (bys ((xs.drop (at_ + k)).take n)) 0 n (by rw [bys_length, hlen]; omega) (by omega)
  rw [List.drop_zero, List.drop_of_length_le (l := C) (by omega), List.append_nil] at h2
  rw [h2] at h1
  exact h1
 have h31 : w3.cell? ⟨b, 1, none⟩ = some (.int .i64 at_) := (hB3.cell (p := ⟨b, 1, none⟩) hbw).trans H.out.c1
 have f31 : w3.frozen? ⟨b, 1, none⟩ = false := ((Kept.of_below hB3).frozen (p := ⟨b, 1, none⟩) hbw (by simp)).trans H.out.f1
 have HK : Hid (Kept [] w w3) := Kept.of_below hB3
 clear hR3 hB3 hrow hB1 hcut3 h01 h11 hwr
 go_wp2
 go_ret
 have hrf := (H.out.kept HK.out (by simp) (by simp)).moved (at_ + k + n) (by rw [HL.out]; omega)
 have hkk : Kept [b] w3 (w3.setCell ⟨b, 1, none⟩ (.int .i64 ((at_ + k + n : Nat) : Int))) := (Kept.refl [b] w3).setCell (by simp) _
 have hrl := (gs HR3.out).1
 refine ⟨some ⟨w.heap.size, 0, none⟩, n, rfl, ⟨?_, by omega, by simp, fun a ha => by cases ha; exact ⟨Nat.le_refl _, Nat.lt_of_lt_of_le hrl (by simp [World.setCell]), rfl⟩⟩, ?_, ?_⟩
 ·have h5 : Sl w3 (some ⟨w.heap.size, 0, none⟩) ((xs.drop (at_ + k)).take n) := Sl.of fun i hi => by
   rw [cell_of_row w3 _ _ _ _ _ HR3.out, Nat.zero_add]
   simpa using bys_at hi
  have h6 := h5.kept hkk (fun _ a ha => by cases ha; simp; omega)
  simpa using h6
 ·have h7 := (HK.out.mono (l2 := [b]) (by simp)).tr hkk
  simpa using h7
 ·simpa using hrf
end

section
def RfS (w : World) (b : Nat) (ao : Option Addr) (cap : Nat) (xs : List UInt8) (s : Rs) : Prop := Rf w b ao cap xs s.at_ s.e s.p
theorem RfS.kept {l : List Nat} {w w' : World} {b : Nat} {ao : Option Addr} {cap : Nat} {xs : List UInt8} {s : Rs} (h : RfS w b ao cap xs s) (hk : Kept l w w') (hn : b ∉ l) (hs : xs ≠ [] -> ∀ a, ao = some a -> a.block ∉ l) : RfS w' b ao cap xs s := Rf.kept h hk hn hs
theorem RfS.lt {w : World} {b : Nat} {ao : Option Addr} {cap : Nat} {xs : List UInt8} {s : Rs} (h : RfS w b ao cap xs s) : b < w.heap.size := Rf.lt h
theorem RfS.drewN {w : World} {b : Nat} {ao : Option Addr} {cap : Nat} {xs : List UInt8} {s : Rs} (h : RfS w b ao cap xs s) (n : Nat) : RfS (w.drewN n) b ao cap xs s := Rf.drewN h n
theorem takenum_st {w : World} {b : Nat} {ao : Option Addr} {cap : Nat} {xs : List UInt8} {s : Rs} (h : RfS w b ao cap xs s) :
  Calls Tryz.prog 34 #[.pointer (some ⟨b, 0, none⟩)] w fun e' w' => e' = .returned (.int .i64 (stNumber xs s).1) ∧ Kept [b] w w' ∧ RfS w' b ao cap xs (stNumber xs s).2 := by
 obtain ⟨a, e, p⟩ := s
 have hr : Rf w b ao cap xs a e p := h
 unfold stNumber
 by_cases he : e = 0
 ·subst he
  rw [if_pos rfl]
  rcases hn : Pure.num (xs.drop a) with ⟨v, k, c⟩
  simp only [hn]
  by_cases hc : c = 0
  ·subst hc
   rw [if_pos rfl]
   exact (takenum_as hr hn).mono fun e w' ⟨h1, h2, h3⟩ => ⟨h1, h2, h3⟩
  ·rw [if_neg hc]
   exact (takenum_no hr hn hc).mono fun e w' ⟨h1, h2, h3⟩ => ⟨h1, h2, h3⟩
 ·rw [if_neg he]
  exact (takenum_bad hr he).mono fun e w' ⟨h1, h2⟩ => by
   subst h2
   exact ⟨h1, Kept.refl _ _, hr⟩
theorem takefix_st {w : World} {b : Nat} {ao : Option Addr} {cap : Nat} {xs : List UInt8} {s : Rs} (h : RfS w b ao cap xs s) (n : Int) :
  Calls Tryz.prog 33 #[.pointer (some ⟨b, 0, none⟩), .int .i64 n] w fun e' w' => e' = .returned (.int .i64 (stFixed xs s n).1) ∧ Kept [b] w w' ∧ RfS w' b ao cap xs (stFixed xs s n).2 := by
 obtain ⟨a, e, p⟩ := s
 have hr : Rf w b ao cap xs a e p := h
 unfold stFixed
 by_cases he : e = 0
 ·subst he
  rw [if_pos rfl]
  by_cases h1 : n < 1 ∨ 4 < n
  ·rw [if_pos h1]
   exact (takefix_arg hr n h1).mono fun e w' ⟨h1, h2, h3⟩ => ⟨h1, h2, h3⟩
  ·rw [if_neg h1]
   by_cases h2 : ((xs.length - a : Nat) : Int) < n
   ·rw [if_pos h2]
    exact (takefix_short hr n (by omega) (by omega) h2).mono fun e w' ⟨h1, h2, h3⟩ => ⟨h1, h2, h3⟩
   ·rw [if_neg h2]
    obtain ⟨m, rfl⟩ := Int.eq_ofNat_of_zero_le (show 0 <= n by omega)
    rw [Int.toNat_natCast]
    exact (takefix_ok hr m (by omega) (by omega) (by omega)).mono fun e w' ⟨h1, h2, h3⟩ => ⟨h1, h2, h3⟩
 ·rw [if_neg he]
  exact (takefix_bad hr he n).mono fun e w' ⟨h1, h2⟩ => by
   subst h2
   exact ⟨h1, Kept.refl _ _, hr⟩
theorem takeraw_st {w : World} {b : Nat} {ao : Option Addr} {cap : Nat} {xs : List UInt8} {s : Rs} (h : RfS w b ao cap xs s) (n : Int) :
  Calls Tryz.prog 37 #[.pointer (some ⟨b, 0, none⟩), .int .i64 n] w fun e' w' => RowEnd w w' e' (stRaw xs s n).1 ∧ Kept [b] w w' ∧ RfS w' b ao cap xs (stRaw xs s n).2 := by
 obtain ⟨a, e, p⟩ := s
 have hr : Rf w b ao cap xs a e p := h
 unfold stRaw
 by_cases he : e = 0
 ·subst he
  rw [if_pos rfl]
  by_cases h1 : n < 0
  ·rw [if_pos h1]
   exact (takeraw_neg hr n h1).mono fun e w' ⟨h1, h2, h3⟩ => ⟨h1 ▸ RowEnd.nil _ _, h2, h3⟩
  ·rw [if_neg h1]
   by_cases h2 : ((xs.length - a : Nat) : Int) < n
   ·rw [if_pos h2]
    exact (takeraw_short hr n (by omega) h2).mono fun e w' ⟨h1, h2, h3⟩ => ⟨h1 ▸ RowEnd.nil _ _, h2, h3⟩
   ·rw [if_neg h2]
    obtain ⟨m, rfl⟩ := Int.eq_ofNat_of_zero_le (show 0 <= n by omega)
    rw [Int.toNat_natCast]
    exact (takeraw_ok hr m (by omega)).mono fun e w' ⟨ao', cap', h1, h2, h3, h4⟩ => ⟨⟨ao', cap', by rw [h1]; exact ret_slice (take_len (a := a) (by omega)).symm, h2⟩, h3, h4⟩
 ·rw [if_neg he]
  exact (takeraw_bad hr he n).mono fun e w' ⟨h1, h2⟩ => by
   subst h2
   exact ⟨h1 ▸ RowEnd.nil _ _, Kept.refl _ _, hr⟩
theorem taketext_st {w : World} {b : Nat} {ao : Option Addr} {cap : Nat} {xs : List UInt8} {s : Rs} (h : RfS w b ao cap xs s) (n : Int) :
  Calls Tryz.prog 79 #[.pointer (some ⟨b, 0, none⟩), .int .i64 n] w fun e' w' => RowEnd w w' e' (stText xs s n).1 ∧ Kept [b] w w' ∧ RfS w' b ao cap xs (stText xs s n).2 := by
 obtain ⟨a, e, p⟩ := s
 have hr : Rf w b ao cap xs a e p := h
 unfold stText
 by_cases he : e = 0
 ·subst he
  rw [if_pos rfl]
  by_cases h1 : n < 0
  ·rw [if_pos h1]
   exact (taketext_neg hr n h1).mono fun e w' ⟨h1, h2, h3⟩ => ⟨h1 ▸ RowEnd.nil _ _, h2, h3⟩
  ·rw [if_neg h1]
   rcases hn : Pure.num (xs.drop a) with ⟨v, k, c⟩
   simp only [hn]
   by_cases hc : c = 0
   ·subst hc
    rw [if_pos rfl]
    by_cases h2 : n < (v : Int)
    ·rw [if_pos h2]
     exact (taketext_long hr n (by omega) hn h2).mono fun e w' ⟨h1, h2, h3⟩ => ⟨h1 ▸ RowEnd.nil _ _, h2, h3⟩
    ·rw [if_neg h2]
     by_cases h3 : xs.length - (a + k) < v
     ·rw [if_pos h3]
      exact (taketext_short hr n (by omega) hn (by omega) h3).mono fun e w' ⟨h1, h2, h3⟩ => ⟨h1 ▸ RowEnd.nil _ _, h2, h3⟩
     ·rw [if_neg h3]
      exact (taketext_ok hr n (by omega) hn (by omega) (by omega)).mono fun e w' ⟨ao', cap', h1, h2, h3, h4⟩ => ⟨⟨ao', cap', by rw [h1, take_len (by omega)], h2⟩, h3, h4⟩
   ·rw [if_neg hc]
    exact (taketext_form hr n (by omega) hn hc).mono fun e w' ⟨h1, h2, h3⟩ => ⟨h1 ▸ RowEnd.nil _ _, h2, h3⟩
 ·rw [if_neg he]
  exact (taketext_bad hr he n).mono fun e w' ⟨h1, h2⟩ => by
   subst h2
   exact ⟨h1 ▸ RowEnd.nil _ _, Kept.refl _ _, hr⟩
theorem refleft_st {w : World} {b : Nat} {ao : Option Addr} {cap : Nat} {xs : List UInt8} {s : Rs} (h : RfS w b ao cap xs s) :
  Calls Tryz.prog 39 #[.pointer (some ⟨b, 0, none⟩)] w fun e' w' => e' = .returned (.int .i64 (stLeft xs s)) ∧ ∃ n, w' = w.drewN n := by
 obtain ⟨a, e, p⟩ := s
 have hr : Rf w b ao cap xs a e p := h
 unfold stLeft
 by_cases he : e = 0
 ·subst he
  rw [if_pos rfl]
  exact refleft_ok hr
 ·rw [if_neg he]
  exact refleft_bad hr he
end

end Go.Proofs.YtmklodligplbaabGreat
