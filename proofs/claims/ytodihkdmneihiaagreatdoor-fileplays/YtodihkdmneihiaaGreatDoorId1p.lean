import Derived.Test.YtodihkdmneihiaaGreatDoorHop
import Derived.Deep.QuietTactic
import Derived.BigQuiet
import Derived.WalkArith
import Derived.Deep.OwnRows
namespace Go.Proofs.YtodihkdmneihiaaGreatDoor
section
open Go.RowKit Dsk
set_option linter.unusedVariables false
set_option linter.unusedSimpArgs false
theorem take_snoc' (l : List UInt8) (d : UInt8) (k : Nat) (h : k < l.length) : l.take (k + 1) = l.take k ++ [l.getD k d] := by
 rw [List.take_succ_eq_append_getElem h]
 simp [List.getElem?_eq_getElem h]
def Fis (w : World) (ao : Option Addr) (L : List (By × By)) : Prop := ∀ i, i < L.length → ∃ b, ao = some ⟨b, 0, none⟩ ∧ ∃ f : By × By, L[i]? = some f ∧ w.cell? ⟨b, i * 2, none⟩ = some (encStr f.1) ∧ ∃ bo bc, w.cell? ⟨b, i * 2 + 1, none⟩ = some (.slice bo f.2.length bc) ∧ Sl w bo f.2
theorem fcells_get (L : List (By × By)) (vs : List Value) (i : Nat) (f : By × By) (u : Value) (hl : vs.length = L.length) (h : L[i]? = some f) (hu : vs[i]? = some u) : (fcells L vs)[i * 2]? = some (encStr f.1) ∧ (fcells L vs)[i * 2 + 1]? = some u := by
 induction L generalizing i vs with
 | nil => simp at h
 | cons x r ih =>
  cases vs with
  | nil => simp at hl
  | cons y vs =>
   cases i with
   | zero =>
    simp only [List.getElem?_cons_zero, Option.some.injEq] at h hu
    subst h hu
    exact ⟨rfl, rfl⟩
   | succ i =>
    have := ih vs i (by simpa using hl) (by simpa using h) (by simpa using hu)
    rw [show (i + 1) * 2 = i * 2 + 1 + 1 by omega, show i * 2 + 1 + 1 + 1 = i * 2 + 1 + 1 + 1 from rfl]
    simp only [fcells, List.getElem?_cons_succ]
    exact this
theorem Fis.of {w : World} {B : Nat} {ao : Option Addr} {n c : Nat} {L : List (By × By)} {vs : List Value} (h : Fls w B (.slice ao n c) L vs) : Fis w ao L ∧ n = L.length := by
 have hn : n = L.length := by
  rcases h.row.2 with ⟨e, e2⟩ | ⟨g, cap, cur, e, _⟩
  ·injection e with _ e _; omega
  ·injection e
 refine ⟨fun i hi => ?_, hn⟩
 have hv : i < vs.length := by rw [h.len]; exact hi
 obtain ⟨q1, q2⟩ := fcells_get L vs i _ _ h.len (List.getElem?_eq_getElem hi) (List.getElem?_eq_getElem hv)
 have hb := h.own i _ _ (List.getElem?_eq_getElem hi) (List.getElem?_eq_getElem hv)
 obtain ⟨bo, bc, e, _⟩ := hb.shape
 rw [e] at q2 hb
 rcases h.row.2 with ⟨e, e2⟩ | ⟨g, cap, cur, e, _⟩
 ·omega
 ·injection e with e _ _
  subst e
  refine ⟨g, rfl, _, List.getElem?_eq_getElem hi, ?_, bo, bc, ?_, hb.sl⟩
  ·have := h.row.cells (g := g) rfl _ _ q1
   rwa [add0] at this
  ·have := h.row.cells (g := g) rfl _ _ q2
   rwa [add0] at this
theorem Fis.kept {w w' : World} {ao : Option Addr} {L : List (By × By)} (h : Fis w ao L) (hk : Kept [] w w') : Fis w' ao L := fun i hi => by
 obtain ⟨b, e, f, hf, c1, bo, bc, c2, hs⟩ := h i hi
 exact ⟨b, e, f, hf, hk.cellOf c1 (by simp), bo, bc, hk.cellOf c2 (by simp), hs.kept hk (by simp)⟩
end

section
open Go.RowKit Dsk
set_option linter.unusedVariables false
set_option linter.unusedSimpArgs false
set_option maxHeartbeats 800000 in
set_option maxRecDepth 100000 in
theorem same_some (b1 o1 c1 b2 o2 c2 n : Nat) (xs ys : List UInt8) (w : World) (hx : xs.length = n) (hy : ys.length = n) (hm : n ≤ 4611686018427387904)
  (h1 : ∀ i, i < xs.length → w.cell? ⟨b1, o1 + i, none⟩ = some (.int .u8 (xs.getD i 0).toNat)) (h2 : ∀ i, i < ys.length → w.cell? ⟨b2, o2 + i, none⟩ = some (.int .u8 (ys.getD i 0).toNat)) :
  Calls Tryz.prog 18 #[.slice (some ⟨b1, o1, none⟩) n c1, .slice (some ⟨b2, o2, none⟩) n c2] w fun e w' => e = .returned (.bool (decide (xs = ys))) ∧ ∃ k, w' = w.drewN k := by
 go_enter Tryz.func18, Tryz.ntmps18
 go_wp2
 go_loopw [5] (fun i wr => ∃ k : Nat, k ≤ n ∧ i = .int .i64 k ∧ xs.take k = ys.take k ∧ ∃ j, wr = w.drewN j) (fun i wr => n - (intOf i).toNat)
 case atStart => exact ⟨0, Nat.zero_le _, rfl, by simp, 0, rfl⟩
 case round =>
  obtain ⟨k, hk, rfl, heq, j, hwr⟩ := hrel
  subst hwr
  have HE : Hid (xs.take k = ys.take k) := heq
  clear heq
  by_cases hlt : k < n
  ·have e1 := h1 k (by omega)
   have e2 := h2 k (by omega)
   have hc1 : (xs.getD k 0).toNat < 256 := UInt8.toNat_lt _
   have hc2 : (ys.getD k 0).toNat < 256 := UInt8.toNat_lt _
   by_cases hcc : xs.getD k 0 = ys.getD k 0
   ·have hcn : (((xs.getD k 0).toNat : Int) != ((ys.getD k 0).toNat : Int)) = false := by rw [hcc]; simp
    have HC : Hid (xs.getD k 0 = ys.getD k 0) := hcc
    clear hcc h1 h2
    generalize (xs.getD k 0).toNat = c at e1 hcn hc1
    generalize (ys.getD k 0).toNat = d at e2 hcn hc2
    go_wp2
    go_quiet (fail)
    go_wp2
    go_roundw
    case rel => exact ⟨k + 1, by omega, by go_num, by rw [take_snoc' xs 0 k (by omega), take_snoc' ys 0 k (by omega), HE.out, HC.out], _, rfl⟩
    case measure => simp [intOf]; omega
   ·have hcn : (((xs.getD k 0).toNat : Int) != ((ys.getD k 0).toNat : Int)) = true := by
     simp only [bne_iff_ne, ne_eq]
     intro h
     exact hcc (UInt8.toNat_inj.1 (by omega))
    have hfin : Hid (decide (xs = ys) = false) := by
     show _ = _
     simp only [decide_eq_false_iff_not]
     rintro rfl
     exact hcc rfl
    clear hcc h1 h2
    generalize (xs.getD k 0).toNat = c at e1 hcn hc1
    generalize (ys.getD k 0).toNat = d at e2 hcn hc2
    go_wp2
    go_quiet (fail)
    go_wp2
    go_ret
    exact ⟨by rw [hfin.out]; rfl, j + nq, by simp⟩
  ·have hfin : Hid (decide (xs = ys) = true) := by
    have := HE.out
    rw [List.take_of_length_le (by omega), List.take_of_length_le (by omega)] at this
    show _ = _
    simpa using this
   clear h1 h2
   go_wp2
   go_ret
   exact ⟨by rw [hfin.out]; rfl, j, rfl⟩
set_option maxHeartbeats 800000 in
set_option maxRecDepth 100000 in
theorem same_len (a1 a2 : Option Addr) (n1 c1 n2 c2 : Nat) (w : World) (hn : n1 ≠ n2) :
  Calls Tryz.prog 18 #[.slice a1 n1 c1, .slice a2 n2 c2] w fun e w' => e = .returned (.bool false) ∧ w' = w := by
 have h : ((n1 : Int) != (n2 : Int)) = true := by simp; omega
 go_enter Tryz.func18, Tryz.ntmps18
 go_wp2
 go_ret
 exact ⟨rfl, rfl⟩
set_option maxHeartbeats 800000 in
set_option maxRecDepth 100000 in
theorem same_none (a1 a2 : Option Addr) (c1 c2 : Nat) (w : World) :
  Calls Tryz.prog 18 #[.slice a1 0 c1, .slice a2 0 c2] w fun e w' => e = .returned (.bool true) ∧ w' = w := by
 go_enter Tryz.func18, Tryz.ntmps18
 go_wp2
 go_loop [5] (fun i => i = .int .i64 0) (fun i => 0)
 case atStart => rfl
 case round =>
  subst hrel
  go_wp2
  go_ret
  exact ⟨rfl, rfl⟩
theorem same_any (a1 a2 : Option Addr) (n1 c1 n2 c2 : Nat) (xs ys : List UInt8) (w : World) (hx : xs.length = n1) (hy : ys.length = n2) (hm : n1 ≤ 4611686018427387904) (h1 : Sl w a1 xs) (h2 : Sl w a2 ys) :
  Calls Tryz.prog 18 #[.slice a1 n1 c1, .slice a2 n2 c2] w fun e w' => e = .returned (.bool (decide (xs = ys))) ∧ ∃ k, w' = w.drewN k := by
 by_cases hn : n1 = n2
 ·subst hn
  by_cases h0 : xs = []
  ·subst h0
   obtain rfl : ys = [] := List.eq_nil_of_length_eq_zero (by rw [hy, ← hx]; rfl)
   obtain rfl : n1 = 0 := by simpa using hx.symm
   exact (same_none a1 a2 c1 c2 w).mono fun e w' ⟨he, hw⟩ => ⟨he, 0, hw⟩
  ·have h0' : ys ≠ [] := fun h => h0 (List.eq_nil_of_length_eq_zero (by rw [hx, ← hy, h]; rfl))
   obtain ⟨b1, o1, rfl, _, hc1⟩ := h1.open h0
   obtain ⟨b2, o2, rfl, _, hc2⟩ := h2.open h0'
   exact same_some b1 o1 c1 b2 o2 c2 n1 xs ys w hx hy hm hc1 hc2
 ·refine (same_len a1 a2 n1 c1 n2 c2 w hn).mono fun e w' ⟨he, hw⟩ => ⟨?_, 0, hw⟩
  rw [he]
  have : decide (xs = ys) = false := by
   simp only [decide_eq_false_iff_not]
   rintro rfl
   exact hn (hx.symm.trans hy)
  rw [this]
theorem same_yes (a1 a2 : Option Addr) (n c1 c2 : Nat) (xs : List UInt8) (w : World) (hx : xs.length = n) (hm : n ≤ 4611686018427387904) (h1 : Sl w a1 xs) (h2 : Sl w a2 xs) :
  Calls Tryz.prog 18 #[.slice a1 n c1, .slice a2 n c2] w fun e w' => e = .returned (.bool true) ∧ ∃ k, w' = w.drewN k := by
 have := same_any a1 a2 n c1 n c2 xs xs w hx hx hm h1 h2
 rw [show decide (xs = xs) = true from by simp] at this
 exact this
set_option maxHeartbeats 800000 in
set_option maxRecDepth 100000 in
theorem files6_yes (a1 a2 : Option Addr) (n c1 c2 : Nat) (L : List (By × By)) (w : World) (hx : L.length = n) (hm : n ≤ 4611686018427387904) (hM : ∀ f ∈ L, f.2.length ≤ 4611686018427387904) (h1 : Fis w a1 L) (h2 : Fis w a2 L) :
  Calls Tryz.prog 44 #[.slice a1 n c1, .slice a2 n c2] w fun e w' => e = .returned (.bool true) ∧ ∃ k, w' = w.drewN k := by
 have HX := hide hx
 clear hx
 go_enter Tryz.func44, Tryz.ntmps44
 go_wp2
 go_loopw [5] (fun i wr => ∃ k : Nat, k ≤ n ∧ i = .int .i64 k ∧ ∃ j, wr = w.drewN j) (fun i wr => n - (intOf i).toNat)
 case atStart => exact ⟨0, Nat.zero_le _, rfl, 0, rfl⟩
 case round =>
  obtain ⟨k, hk, rfl, j, hwr⟩ := hrel
  have HW := hide hwr
  have hkw : Kept [] w wr := by rw [hwr]; exact (Kept.refl [] w).drewN _
  clear hwr
  by_cases hlt : k < n
  ·obtain ⟨b1, rfl, s, hs, e1, bo1, bc1, e2, s1⟩ := h1 k (by rw [HX.out]; exact hlt)
   obtain ⟨b2, rfl, s', hs', d1, bo2, bc2, d2, s2⟩ := h2 k (by rw [HX.out]; exact hlt)
   rw [hs] at hs'
   cases hs'
   replace e1 := hkw.cellOf e1 (by simp)
   replace e2 := hkw.cellOf e2 (by simp)
   replace d1 := hkw.cellOf d1 (by simp)
   replace d2 := hkw.cellOf d2 (by simp)
   have hb : Hid (∀ v, Kept [] wr v → Calls Tryz.prog 18 #[.slice bo1 s.2.length bc1, .slice bo2 s.2.length bc2] v fun e w' => e = .returned (.bool true) ∧ ∃ k, w' = v.drewN k) := fun v hv => same_yes bo1 bo2 s.2.length bc1 bc2 s.2 v rfl (hM s (List.mem_of_getElem? hs)) (s1.kept (hkw.trans hv (by simp)) (by simp)) (s2.kept (hkw.trans hv (by simp)) (by simp))
   generalize s.1 = x at e1 d1
   generalize s.2.length = z at e2 d2 hb
   have HM : Hid (∀ f ∈ L, f.2.length ≤ 4611686018427387904) := hM
   clear h1 h2 hs s1 s2 s hM hkw
   go_wp2
   go_quiet ((go_at_call 18; exact Calls.quiet_of (hb.out _ ((Kept.refl [] wr).drewN _))))
   go_wp2
   go_roundw
   case rel => exact ⟨k + 1, by omega, by go_num, j + nq, by rw [HW.out]; simp⟩
   case measure => simp [intOf]; omega
  ·clear h1 h2
   go_wp2
   go_ret
   exact ⟨rfl, j, HW.out⟩
end

section
open Go.RowKit Dsk
set_option linter.unusedVariables false
set_option linter.unusedSimpArgs false
end

section
open Go.RowKit Dsk
set_option linter.unusedVariables false
set_option linter.unusedSimpArgs false
theorem ins_len (x : By × Nat) (l : Nm) : (Nm.ins x l).length = l.length + 1 := by
 induction l with
 | nil => rfl
 | cons y r ih =>
  unfold Nm.ins
  by_cases h : bytesBefore x.1 y.1 = true
  ·rw [if_pos h]; rfl
  ·rw [if_neg h]; simp [ih]
end

end Go.Proofs.YtodihkdmneihiaaGreatDoor
