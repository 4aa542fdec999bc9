import Derived.Test.YtmklodligplbaabGreatE1l
import Derived.WalkKit
import Derived.Deep.RegionHeld3
namespace Go.Proofs.YtmklodligplbaabGreat
section
open Go.RowKit
set_option linter.unusedVariables false
set_option linter.unusedSimpArgs false
def wat (data : List UInt8) (size k : Nat) : List UInt8 := (data.drop k).take size
theorem wat_head (data : List UInt8) (size k : Nat) (hs : 0 < size) (h : k + size ≤ data.length) : wat data size k = data.getD k 0 :: (data.drop (k + 1)).take (size - 1) := by
 unfold wat
 obtain ⟨m, rfl⟩ : ∃ m, size = m + 1 := ⟨size - 1, by omega⟩
 rw [List.drop_eq_getElem_cons (by omega), List.take_succ_cons]
 simp [List.getElem?_eq_getElem (show k < data.length by omega)]
theorem wat_next (data : List UInt8) (size k : Nat) (hs : 0 < size) (h : k + size < data.length) : wat data size (k + 1) = (data.drop (k + 1)).take (size - 1) ++ [data.getD (k + size) 0] := by
 unfold wat
 have e : size = size - 1 + 1 := by omega
 rw [show List.take size (data.drop (k + 1)) = List.take (size - 1 + 1) (data.drop (k + 1)) by rw [← e], List.take_succ_eq_append_getElem (by simp; omega)]
 congr 2
 simp only [List.getElem_drop, List.getD_eq_getElem?_getD]
 rw [List.getElem?_eq_getElem (show k + size < data.length by omega), Option.getD_some]
 congr 1
 omega
structure Wc (w : World) (Kb Sb g cap size : Nat) (data : List UInt8) : Prop where
 k : w.cell? ⟨Kb, 0, none⟩ = some (.slice (some ⟨g, 0, none⟩) data.length cap)
 s : w.cell? ⟨Sb, 0, none⟩ = some (.int .i64 size)
 d : ∀ i, i < data.length → w.cell? ⟨g, i, none⟩ = some (.int .u8 (data.getD i 0).toNat)
 h1 : 1 ≤ size
 h2 : size ≤ data.length
 le : data.length ≤ cap
 max : data.length ≤ 140737488355328
theorem Wc.kept {l : List Nat} {w w' : World} {Kb Sb g cap size : Nat} {data : List UInt8} (h : Wc w Kb Sb g cap size data) (hk : Kept l w w') (h1 : Kb ∉ l) (h2 : Sb ∉ l) (h3 : g ∉ l) : Wc w' Kb Sb g cap size data :=
 ⟨hk.cellOf h.k h1, hk.cellOf h.s h2, fun i hi => hk.cellOf (h.d i hi) h3, h.h1, h.h2, h.le, h.max⟩
structure Wl (wr : World) (P : Nat) (a b : Nat) : Prop where
 row : wr.heap[P]? = some (.cells #[.int .u16 a, .int .u16 b] 172 (0, 0))
theorem Wl.kept {l : List Nat} {w w' : World} {P a b : Nat} (h : Wl w P a b) (hk : Kept l w w') (hp : P ∉ l) : Wl w' P a b :=
 ⟨by rw [hk.block P (Array.getElem?_eq_some_iff.1 h.row).1 hp]; exact h.row⟩
set_option maxHeartbeats 400000 in
theorem win1_any (y : Value) (w : World) :
  Calls Tryz.prog 122 #[y] w fun e w' => e = .returned (.tuple #[]) ∧ w' = w := by
 go_enter Tryz.func122, Tryz.ntmps122
 go_wp2
 first | exact bodyPost_end (results_none rfl _ _ _) rfl ⟨rfl, rfl⟩ | exact bodyPost_ret (results_none rfl _ _ _) rfl ⟨rfl, rfl⟩
set_option maxHeartbeats 1000000 in
set_option maxRecDepth 100000 in
theorem windows_bad (ao : Option Addr) (n cap : Nat) (size : Int) (w : World) (hs : size < 1 ∨ (n : Int) < size) :
  Calls Tryz.prog 100 #[.slice ao n cap, .int .i64 size] w fun e w' => e = .returned (.func (.func 122) #[] #[]) ∧ Kept [] w w' := by
 have HK : Hid (Kept [] w (w.alloc (.cells #[.int .i64 size] 3))) := (Kept.refl _ _).alloc _
 by_cases h1 : size < 1
 ·clear hs
  go_enter Tryz.func100, Tryz.ntmps100
  go_wp2
  go_ret
  exact ⟨rfl, HK.out⟩
 ·have h2 : (n : Int) < size := by omega
  clear hs
  go_enter Tryz.func100, Tryz.ntmps100
  go_wp2
  go_ret
  exact ⟨rfl, HK.out⟩
set_option maxHeartbeats 1000000 in
set_option maxRecDepth 100000 in
theorem windows_ok (ao : Option Addr) (n cap size : Nat) (data : List UInt8) (w : World) (hx : data.length = n) (hm : n ≤ 140737488355328) (h : Sl w ao data) (h1 : 1 ≤ size) (h2 : size ≤ n) :
  Calls Tryz.prog 100 #[.slice ao n cap, .int .i64 size] w fun e w' => ∃ Kb Sb g cap', e = .returned (.func (.func 124) #[] #[.pointer (some ⟨Kb, 0, none⟩), .pointer (some ⟨Sb, 0, none⟩)]) ∧ Wc w' Kb Sb g cap' size data ∧ w.heap.size ≤ Kb ∧ w.heap.size ≤ Sb ∧ w.heap.size ≤ g ∧ Kept [] w w' := by
 have HX : Hid (data.length = n) := hx
 have HS : Hid (Sl (w.alloc (.cells #[.int .i64 size] 3)) ao data) := h.kept ((Kept.refl [] w).alloc _) (by simp)
 have hnn : ao = none → data = [] ∧ cap = 0 := fun e => by
  obtain ⟨b, off, e', _⟩ := h 0 (by omega)
  rw [e] at e'; cases e'
 clear hx h
 go_enter Tryz.func100, Tryz.ntmps100
 go_wp2_with (go_at_call 123; refine (clone_ownE ao n cap data _ HX.out (by rw [HX.out]; omega) HS.out hnn).mono ?_; rintro e w1 ⟨ao1, cap1, rfl, how1, hk1⟩; have HW1 : Hid (w1.ownsRow (w.alloc (.cells #[.int .i64 size] 3)).heap.size 5 1 (.slice ao1 n cap1) n (bys data)) := how1; clear how1)
 go_ret
 have hne : (Value.slice ao1 n cap1) ≠ .slice none 0 0 := by intro e; cases e; omega
 obtain ⟨g, cp, e1, hg1, hg2, hg3, hc, hfz⟩ := own_open HW1.out hne
 cases e1
 have hka : Kept [] w (w.alloc (.cells #[.int .i64 size] 3)) := (Kept.refl _ _).alloc _
 have hk2 : Kept [] w1 (w1.alloc (.cells #[.slice (some ⟨g, 0, none⟩) n cap1] 27)) := (Kept.refl _ _).alloc _
 have hsz := hka.size
 have hs2 := hk1.size
 refine ⟨w1.heap.size, w.heap.size, g, cap1, rfl, ?_, by omega, Nat.le_refl _, by omega, (hka.trans hk1 (by simp)).trans hk2 (by simp)⟩
 refine ⟨by rw [HX.out]; simp, ?_, fun i hi => hk2.cellOf (hc i hi) (by simp), h1, by rw [HX.out]; exact h2, by rw [HX.out]; exact hg3, by rw [HX.out]; exact hm⟩
 refine hk2.cellOf (hk1.cellOf ?_ (by simp)) (by simp)
 simp
end

section
open Go.RowKit
set_option linter.unusedVariables false
theorem hide {p : Prop} (h : p) : Hid p := h
section
variable {P : Program} {ops : Array Oper} {Q : Exit → Act → World → Prop} {md : Region.Mode} {S : World → Prop} {late : Nat → Bool}
end
end

end Go.Proofs.YtmklodligplbaabGreat
