/-
  Contracts: table.first, table.Find.
-/
import Derived.Test.YtdeneflgldagpabZk
import Derived.Test.YtdeneflgldagpabZr
namespace Go.Proofs.Ytdeneflgldagpab
open Go.Shelf Go.RowKit Go.Lib Go.Sort
set_option linter.unusedVariables false
set_option linter.unusedSimpArgs false

set_option maxHeartbeats 1600000 in
set_option maxRecDepth 100000 in
theorem first1_ok (bx : Nat) (x : Res) (A : List UInt8) (hA : A.length = 32) (w : World) (hb : bx < w.heap.size) (rx : w.rangeAt bx 0 (bys A)) : Calls Try.prog 54 #[.agg x.cells.toArray, .pointer (some ⟨bx, 0, none⟩)] w fun e w' => e = .returned (.bool (decide (x.action = A))) ∧ w' = w.alloc (.cells x.cells.toArray 36) := by
  obtain ⟨W1, hW1⟩ : ∃ W1, w.alloc (.cells x.cells.toArray 36) = W1 := ⟨_, rfl⟩
  have lx : W1.rangeAt w.heap.size 0 (bys x.action) := by
    intro j v hj
    have h1 : W1.heap[w.heap.size]? = some (.cells x.cells.toArray 36) := by rw [← hW1]; exact heap_new w _
    rw [Nat.zero_add, cell_of_row _ _ _ _ _ _ h1]
    obtain ⟨hj1, rfl⟩ := bys_get hj
    rw [List.getElem?_toArray, Res.act (by rw [← x.ha]; exact hj1)]
  have ly : W1.rangeAt bx 0 (bys A) := fun j v hj => by rw [← hW1]; exact ((Kept.refl [] w).alloc _).cellOf (rx j v hj) (by simp)
  have ix : (Try.prog.info? 34).map (·.size) = some (bys x.action).length := by rw [bys_length, x.ha]; kernel_rfl
  have iy : (Try.prog.info? 34).map (·.size) = some (bys A).length := by rw [bys_length, hA]; kernel_rfl
  have he : Sem.run Try.prog (Op.equalIn 10000 34 (.agg (bys x.action).toArray) (.agg (bys A).toArray)) W1 = .ok (decide (x.action = A)) W1 := Try.eqlID _ _ x.ha hA W1
  generalize decide (x.action = A) = R at he ⊢
  rw [hW1]
  clear rx hb
  go_enter Try.func54, Try.ntmps54
  go_wp2_with (first | refine wpList_load_mid rfl 34 (.tmp 4) rfl w.heap.size 0 rfl _ _ lx Try.underlying34 rfl ix ?_ | refine wpList_load_mid rfl 34 (.tmp 1) rfl bx 0 rfl _ _ ly Try.underlying34 rfl iy ?_)
  go_ret
  exact ⟨rfl, rfl⟩

namespace Tb
/-- Where the first result of an action is, in any list. -/
def idx (L : List Res) (A : List UInt8) : Int := Lib.idxBy (fun _ y => decide (y.action = A)) L default
def pos (L : List Res) (A : List UInt8) : Int := if valid L then (rank L A : Nat) else idx L A
def isIn (L : List Res) (A : List UInt8) : Bool := if valid L then has L A else decide (0 ≤ idx L A)
end Tb
theorem Try.eFirst : ∀ args w, (callFunc 54 args).run Try.prog w = .ok (.enter 54 args) w := enters_of Try.func54 (by kernel_rfl) rfl
theorem index_ok (ao : Option Addr) (n cap bx : Nat) (L : List Res) (A : List UInt8) (w : World) (hn : L.length = n) (hL : Ress w ao L) (hA : A.length = 32) (hb : bx < w.heap.size) (rx : w.rangeAt bx 0 (bys A)) (hm : n ≤ 4611686018427387904) :
    Calls Try.prog 53 #[.slice ao n cap, .func (.func 54) #[] #[.pointer (some ⟨bx, 0, none⟩)]] w fun e w' => e = .returned (.int .i64 (Tb.idx L A)) ∧ Kept [] w w' := by
  by_cases h0 : L = []
  · subst h0
    obtain rfl : n = 0 := hn.symm
    refine (index_none ao cap _ w).mono ?_
    rintro e w' ⟨rfl, rfl⟩
    exact ⟨rfl, Kept.refl _ _⟩
  · obtain ⟨b, off, rfl, hbb, _⟩ := hL.open h0
    have h := AnyQ.slices_IndexFunc layIndex 65 Try.isAgg36 Try.sizeOf36 Res.cells Res.len (fun y => decide (y.action = A)) 54 #[.pointer (some ⟨bx, 0, none⟩)] Try.eFirst b off n cap L w
      (fun W x hbw => by
        show Calls Try.prog 54 #[.agg x.cells.toArray, .pointer (some ⟨bx, 0, none⟩)] W _
        refine (first1_ok bx x A hA W (Nat.lt_of_lt_of_le hb hbw.size) (fun j v hj => by rw [hbw.cell (p := ⟨bx, 0 + j, none⟩) hb]; exact rx j v hj)).mono ?_
        rintro e w' ⟨he, hw⟩
        exact ⟨he, by rw [hw]; exact hbw.alloc hbw.size _⟩) (by omega) (by omega) hbb hL.lib
    rw [List.take_of_length_le (by omega)] at h
    exact h.mono fun _ _ ⟨he, hb⟩ => ⟨he, Kept.of_below hb⟩

set_option maxHeartbeats 1600000 in
set_option maxRecDepth 100000 in
theorem first_ok (ao : Option Addr) (n cap : Nat) (L : List Res) (A : List UInt8) (w : World) (hn : L.length = n) (hL : Ress w ao L) (hw : Wao ao) (hA : A.length = 32) (hm : n < 4611686018427387904) :
    Calls Try.prog 33 #[.slice ao n cap, .agg (bys A).toArray] w fun e w' => e = .returned (.tuple #[.int .i64 (Tb.pos L A), .bool (Tb.isIn L A)]) ∧ Kept [] w w' := by
  obtain ⟨W0, hW0⟩ : ∃ W0, w.alloc (.cells (bys A).toArray 34) = W0 := ⟨_, rfl⟩
  have hk0 : Kept [] w W0 := by rw [← hW0]; exact (Kept.refl [] w).alloc _
  have r0 : W0.rangeAt w.heap.size 0 (bys A) := by
    intro j v hj
    have h1 : W0.heap[w.heap.size]? = some (.cells (bys A).toArray 34) := by rw [← hW0]; exact heap_new w _
    rw [Nat.zero_add, cell_of_row _ _ _ _ _ _ h1]
    simpa using hj
  have hlt : w.heap.size < W0.heap.size := by rw [← hW0]; simp
  have hv := valid_ok ao n cap L W0 hn (hL.kept hk0 (by simp)) hw (by omega)
  have iA : (Try.prog.info? 34).map (·.size) = some (bys A).length := by rw [bys_length, hA]; kernel_rfl
  have HK0 := hide hk0
  unfold Tb.pos Tb.isIn
  cases hV : Tb.valid L with
  | true =>
    rw [hV] at hv
    have hpl : Hid (∀ W, Kept [] w W → Calls Try.prog 31 #[.slice ao n cap, .agg (bys A).toArray] W fun e w' => e = .returned (.tuple #[.int .i64 (Tb.rank L A), .bool (Tb.has L A)]) ∧ Kept [] W w') := fun W hk => place_ok ao n cap L A W hn (hL.kept hk (by simp)) hA (Tb.valid_rise hV) hm
    simp only [if_true]
    clear hL hn hw hV hk0
    go_enter Try.func33, Try.ntmps33
    go_wp2_with (first
      | (go_at_call 24; refine hv.mono ?_; rintro r w1 ⟨rfl, hk1⟩; have HK1 : Hid (Kept [] w w1) := HK0.out.trans hk1 (by simp); replace r0 : w1.rangeAt w.heap.size 0 (bys A) := (fun j v hj => hk1.cellOf (r0 j v hj) (by simp)); clear hk1 hv)
      | refine wpList_load_mid rfl 34 (.tmp 3) rfl w.heap.size 0 rfl (bys A) _ r0 Try.underlying34 rfl iA ?_
      | (go_at_call 31; refine (hpl.out _ HK1.out).mono ?_; rintro r w2 ⟨rfl, hk2⟩; have HK2 : Hid (Kept [] w w2) := HK1.out.trans hk2 (by simp); clear hk2))
    go_ret2
    exact ⟨rfl, HK2.out⟩
  | false =>
    rw [hV] at hv
    have hix : Hid (∀ W, Kept [] W0 W → Calls Try.prog 53 #[.slice ao n cap, .func (.func 54) #[] #[.pointer (some ⟨w.heap.size, 0, none⟩)]] W fun e w' => e = .returned (.int .i64 (Tb.idx L A)) ∧ Kept [] W w') := fun W hk => index_ok ao n cap w.heap.size L A W hn ((hL.kept HK0.out (by simp)).kept hk (by simp)) hA (Nat.lt_of_lt_of_le hlt hk.size) (fun j v hj => hk.cellOf (r0 j v hj) (by simp)) (by omega)
    simp only [Bool.false_eq_true, if_false]
    generalize Tb.idx L A = I at hix ⊢
    clear hL hn hw hV hk0
    go_enter Try.func33, Try.ntmps33
    go_wp2_with (first
      | (go_at_call 24; refine hv.mono ?_; rintro r w1 ⟨rfl, hk1⟩; have HK1 := hide hk1; clear hk1 hv)
      | (go_at_call 53; refine (hix.out _ HK1.out).mono ?_; rintro r w2 ⟨rfl, hk2⟩; have HK2 : Hid (Kept [] w w2) := (HK0.out.trans HK1.out (by simp)).trans hk2 (by simp); clear hk2))
    go_ret2
    exact ⟨rfl, HK2.out⟩
end Go.Proofs.Ytdeneflgldagpab
