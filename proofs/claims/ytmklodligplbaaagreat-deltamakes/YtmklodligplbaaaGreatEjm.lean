import Derived.Test.YtmklodligplbaaaGreatE2m
import Derived.WalkKit
import Derived.Deep.RegionHeld3
open Go.RowKit
set_option linter.unusedVariables false
set_option linter.unusedSimpArgs false
set_option maxRecDepth 100000
set_option maxHeartbeats 51200000
namespace Go.Proofs.YtmklodligplbaaaGreat
section
def wat (data : List UInt8) (size k : Nat) : List UInt8 := (data.drop k).take size
theorem wat_head (data : List UInt8) (size k : Nat) (hs : 0 < size) (h : k + size <= data.length) : wat data size k = data.getD k 0 :: (data.drop (k + 1)).take (size - 1) := by
 unfold wat
 obtain ⟨m, rfl⟩ : ∃ m, size = m + 1 := ⟨size - 1, by omega⟩
 rw [List.drop_eq_getElem_cons (by omega), List.take_succ_cons]
 simp [List.getElem?_eq_getElem (show k < data.length by omega)]
theorem wat_next (data : List UInt8) (size k : Nat) (hs : 0 < size) (h : k + size < data.length) : wat data size (k + 1) = (data.drop (k + 1)).take (size - 1) ++ [data.getD (k + size) 0] := by
 unfold wat
 have e : size = size - 1 + 1 := by omega
 rw [show List.take size (data.drop (k + 1)) = List.take (size - 1 + 1) (data.drop (k + 1)) by rw [<-e], List.take_succ_eq_append_getElem (by simp; omega)]
 congr 2
 simp only [List.getElem_drop, List.getD_eq_getElem?_getD]
 rw [List.getElem?_eq_getElem (show k + size < data.length by omega), Option.getD_some]
 congr 1
 omega
structure Wc (w : World) (Kb Sb g cap size : Nat) (data : List UInt8) : Prop where
 k : w.cell? ⟨Kb, 0, none⟩ = some (.slice (some ⟨g, 0, none⟩) data.length cap)
 s : w.cell? ⟨Sb, 0, none⟩ = some (.int .i64 size)
 d : ∀ i, i < data.length -> w.cell? ⟨g, i, none⟩ = some (.int .u8 (data.getD i 0).toNat)
 h1 : 1 <= size
 h2 : size <= data.length
 le : data.length <= cap
 max : data.length <= 140737488355328
theorem Wc.kept {l : List Nat} {w w' : World} {Kb Sb g cap size : Nat} {data : List UInt8} (h : Wc w Kb Sb g cap size data) (hk : Kept l w w') (h1 : Kb ∉ l) (h2 : Sb ∉ l) (h3 : g ∉ l) : Wc w' Kb Sb g cap size data :=
 ⟨hk.cellOf h.k h1, hk.cellOf h.s h2, fun i hi => hk.cellOf (h.d i hi) h3, h.h1, h.h2, h.le, h.max⟩
structure Wl (wr : World) (P : Nat) (a b : Nat) : Prop where
 row : wr.heap[P]? = some (.cells #[.int .u16 a, .int .u16 b] 166 (0, 0))
theorem Wl.kept {l : List Nat} {w w' : World} {P a b : Nat} (h : Wl w P a b) (hk : Kept l w w') (hp : P ∉ l) : Wl w' P a b :=
 ⟨by rw [hk.block P (gs h.row).1 hp]; exact h.row⟩
theorem win1_any (y : Value) (w : World) :
  Calls Tryz.prog 115 #[y] w fun e w' => e = .returned (.tuple #[]) ∧ w' = w := by
 go_enter Tryz.func115, Tryz.ntmps115
 go_wp2
 first | exact bodyPost_end (results_none rfl _ _ _) rfl ⟨rfl, rfl⟩ | exact bodyPost_ret (results_none rfl _ _ _) rfl ⟨rfl, rfl⟩
theorem windows_bad (ao : Option Addr) (n cap : Nat) (size : Int) (w : World) (hs : size < 1 ∨ (n : Int) < size) :
  Calls Tryz.prog 94 #[.slice ao n cap, .int .i64 size] w fun e w' => e = .returned (.func (.func 115) #[] #[]) ∧ Kept [] w w' := by
 have HK : Hid (Kept [] w (w.alloc (.cells #[.int .i64 size] 3))) := (Kept.refl _ _).alloc _
 by_cases h1 : size < 1
 ·clear hs
  go_enter Tryz.func94, Tryz.ntmps94
  go_wp2
  go_ret
  exact ⟨rfl, HK.out⟩
 ·have h2 : (n : Int) < size := by omega
  clear hs
  go_enter Tryz.func94, Tryz.ntmps94
  go_wp2
  go_ret
  exact ⟨rfl, HK.out⟩
theorem windows_ok (ao : Option Addr) (n cap size : Nat) (data : List UInt8) (w : World) (hx : data.length = n) (hm : n <= 140737488355328) (h : Sl w ao data) (h1 : 1 <= size) (h2 : size <= n) :
  Calls Tryz.prog 94 #[.slice ao n cap, .int .i64 size] w fun e w' => ∃ Kb Sb g cap', e = .returned (.func (.func 117) #[] #[.pointer (some ⟨Kb, 0, none⟩), .pointer (some ⟨Sb, 0, none⟩)]) ∧ Wc w' Kb Sb g cap' size data ∧ w.heap.size <= Kb ∧ w.heap.size <= Sb ∧ w.heap.size <= g ∧ Kept [] w w' := by
 have HX : Hid (data.length = n) := hx
 have HS : Hid (Sl (w.alloc (.cells #[.int .i64 size] 3)) ao data) := h.kept ((Kept.refl [] w).alloc _) (by simp)
 have hnn : ao = none -> data = [] ∧ cap = 0 := fun e => by
  obtain ⟨b, off, e', _⟩ := h 0 (by omega)
  rw [e] at e'; cases e'
 clear hx h
 go_enter Tryz.func94, Tryz.ntmps94
 go_wp2_with (go_at_call 116; refine (clone_ownE ao n cap data _ HX.out (by rw [HX.out]; omega) HS.out hnn).mono ?_; rintro e w1 ⟨ao1, cap1, rfl, how1, hk1⟩; have HW1 : Hid (w1.ownsRow (w.alloc (.cells #[.int .i64 size] 3)).heap.size 5 1 (.slice ao1 n cap1) n (bys data)) := how1; clear how1)
 go_ret
 have hne : (Value.slice ao1 n cap1) ≠ .slice none 0 0 := by intro e; cases e; omega
 obtain ⟨g, cp, e1, hg1, hg2, hg3, hc, hfz⟩ := own_open HW1.out hne
 cases e1
 have hka : Kept [] w (w.alloc (.cells #[.int .i64 size] 3)) := (Kept.refl _ _).alloc _
 have hk2 : Kept [] w1 (w1.alloc (.cells #[.slice (some ⟨g, 0, none⟩) n cap1] 22)) := (Kept.refl _ _).alloc _
 have hsz := hka.size
 have hs2 := hk1.size
 refine ⟨w1.heap.size, w.heap.size, g, cap1, rfl, ?_, by omega, Nat.le_refl _, by omega, (hka.tr hk1).tr hk2⟩
 refine ⟨by rw [HX.out]; simp, ?_, fun i hi => hk2.cellOf (hc i hi) (by simp), h1, by rw [HX.out]; exact h2, by rw [HX.out]; exact hg3, by rw [HX.out]; exact hm⟩
 refine hk2.cellOf (hk1.cellOf ?_ (by simp)) (by simp)
 simp
end

section
theorem hide {p : Prop} (h : p) : Hid p := h
section
variable {P : Program} {ops : Array Oper} {Q : Exit -> Act -> World -> Prop} {md : Region.Mode} {S : World -> Prop} {late : Nat -> Bool}
def wpAnyL (P : Program) (md : Region.Mode) (ops : Array Oper) (Q : Exit -> Act -> World -> Prop) (S : World -> Prop) (late : Nat -> Bool) : Nat -> Array Bool -> Act -> World -> Prop
 | 0, listed, a, w => Region.ready md ops listed = [] ∧ Q .normal a w
 | fuel + 1, listed, a, w => (Region.ready md ops listed = [] -> Q .normal a w) ∧
  ∀ i ∈ Region.ready md ops listed, wpOp P ops Q i (fun a' w' => (S w -> late i = false -> S w') ∧ wpAnyL P md ops Q S late fuel (listed.setIfInBounds i true) a' w') a w
theorem wpAnyL_any : ∀ (fuel : Nat) (listed : Array Bool) (a : Act) (w : World), wpAnyL P md ops Q S late fuel listed a w -> wpAny P md ops Q fuel listed a w
 | 0, _, _, _, h => h
 | fuel + 1, _, _, _, h => ⟨h.1, fun i hi => wpOp_mono (fun a' w' k => wpAnyL_any fuel _ a' w' k.2) (h.2 i hi)⟩
def downB (md : Region.Mode) (ops : Array Oper) (listed : Array Bool) : Bool :=
 (List.range ops.size).all fun k => !(listed.getD k false) || match ops[k]? with
  | some o => o.after.all fun e => !(Region.binds md e) || listed.getD e.on false
  | none => true
def waits (md : Region.Mode) (ops : Array Oper) (i : Nat) : Nat -> Nat -> Bool
 | 0, _ => false
 | n + 1, z => match ops[z]? with
  | some o => o.after.any fun e => Region.binds md e && (e.on == i || waits md ops i n e.on)
  | none => false
def lateWait (md : Region.Mode) (ops : Array Oper) (late : Nat -> Bool) (i : Nat) : Bool :=
 (List.range ops.size).all fun z => !(late z) || waits md ops i ops.size z
def Down (md : Region.Mode) (ops : Array Oper) (listed : Array Bool) : Prop :=
 ∀ k o, ops[k]? = some o -> listed.getD k false = true -> ∀ e ∈ o.after, Region.binds md e = true -> listed.getD e.on false = true
theorem downB_spec {listed : Array Bool} (h : downB md ops listed = true) : Down md ops listed := by
 intro k o ho hk e he hb
 have h1 := List.all_eq_true.1 h k (List.mem_range.2 (gs ho).1)
 simp only [hk, ho, Bool.not_true, Bool.false_or] at h1
 have h2 := Array.all_eq_true_iff_forall_mem.1 h1 e he
 simpa [hb] using h2
theorem Down.set {listed : Array Bool} (h : Down md ops listed) {j : Nat} (hj : j ∈ Region.ready md ops listed) : Down md ops (listed.setIfInBounds j true) := by
 intro k o ho hk e he hb
 apply getD_set_true
 by_cases hjk : j = k
 ·subst hjk
  obtain ⟨_, o', ho', hall⟩ := mem_ready.1 hj
  rw [ho] at ho'
  cases ho'
  exact hall e he hb
 ·rw [getD_set_ne false hjk] at hk
  exact h k o ho hk e he hb
theorem waits_listed {listed : Array Bool} (hd : Down md ops listed) {i : Nat} : ∀ (n z : Nat) (o : Oper), ops[z]? = some o -> waits md ops i n z = true -> (∀ e ∈ o.after, Region.binds md e = true -> listed.getD e.on false = true) -> listed.getD i false = true
 | 0, z, o, ho, h, _ => by simp [waits] at h
 | n + 1, z, o, ho, h, hall => by
  simp only [waits, ho] at h
  obtain ⟨e, he, hb⟩ := Array.any_eq_true'.1 h
  simp only [Bool.and_eq_true, Bool.or_eq_true, beq_iff_eq] at hb
  have hl := hall e he hb.1
  rcases hb.2 with rfl | hw
  ·exact hl
  ·cases ho' : ops[e.on]? with
   | none => cases n <;> simp [waits, ho'] at hw
   | some o' => exact waits_listed hd n e.on o' ho' hw (hd e.on o' ho' hl)
theorem late_not_ready {listed : Array Bool} (hd : Down md ops listed) {i : Nat} (hi : listed.getD i true = false) (hw : lateWait md ops late i = true) {j : Nat} (hj : j ∈ Region.ready md ops listed) : late j = false := by
 obtain ⟨_, o, ho, hall⟩ := mem_ready.1 hj
 have h1 := List.all_eq_true.1 hw j (List.mem_range.2 (gs ho).1)
 cases hl : late j with
 | false => rfl
 | true =>
  rw [hl] at h1
  simp only [Bool.not_true, Bool.false_or] at h1
  have h2 := waits_listed hd _ j o ho h1 hall
  rcases Nat.lt_or_ge i listed.size with h' | h'
  ·simp [h'] at hi h2; rw [hi] at h2; cases h2
  ·simp [Array.getElem?_eq_none h'] at h2
theorem takeL {i : Nat} {oi : Oper} {v : Value} (hi : ops[i]? = some oi) (hsel : Region.noSelect ops = true) (hw : lateWait md ops late i = true)
  (hQ : ∀ c a w, Q (.panic c) (a.put oi.dst v) w -> Q (.panic c) a w) :
  ∀ (fuel : Nat) (listed : Array Bool) (a : Act) (w : World), Down md ops listed →
   (∀ j oj, ops[j]? = some oj -> j ≠ i -> listed.getD j true = false -> (∀ e ∈ oj.after, Region.binds md e = true -> e.on ≠ i) -> oi.apart ops oj = true) →
   i ∈ Region.ready md ops listed -> YieldsIf P ops S oi v a -> S w →
   wpAnyL P md ops Q S late fuel (listed.setIfInBounds i true) (a.put oi.dst v) w -> wpAnyL P md ops Q S late (fuel + 1) listed a w
 | fuel, listed, a, w, hd, hfree, hr, hy, hS, H => by
  refine ⟨fun h => (by rw [h] at hr; cases hr), fun j hj => ?_⟩
  have hiun := (mem_ready.1 hr).1
  by_cases hji : j = i
  ·subst hji; exact hy.wpOp hi hS ⟨fun h _ => h, H⟩
  ·have hjr := ready_mono (i := i) hj hji
   match fuel, H with
   | 0, H => rw [H.1] at hjr; cases hjr
   | fuel + 1, H =>
    have hlj := late_not_ready hd hiun hw hj
    obtain ⟨hjun, oj, hoj, hall⟩ := mem_ready.1 hj
    have hnot : ∀ e ∈ oj.after, Region.binds md e = true -> e.on ≠ i := by
     rintro e he hb rfl
     have h1 := hall e he hb
     rcases Nat.lt_or_ge e.on listed.size with h' | h'
     ·simp [h'] at hiun h1; rw [hiun] at h1; cases h1
     ·simp [Array.getElem?_eq_none h'] at h1
    have h2 := wpOp_putIf hoj (hfree j oj hoj hji hjun hnot) (fun cs b => Region.noSelect_spec hsel i oi cs b hi) (fun cs b => Region.noSelect_spec hsel j oj cs b hoj) hQ hy (H.2 j hjr)
    refine wpOp_mono (fun a' w' h3 => ⟨fun _ _ => h3.2.1 hS hlj, ?_⟩) h2
    refine takeL hi hsel hw hQ fuel (listed.setIfInBounds j true) a' w' (hd.set hj) (fun k ok hk hki hun hno => hfree k ok hk hki ?_ hno) (ready_mono hr (Ne.symm hji)) h3.1 (h3.2.1 hS hlj) ?_
    ·by_cases hjk : j = k
     ·subst hjk; exact hjun
     ·rw [getD_set_ne true hjk] at hun; exact hun
    ·rw [Array.setIfInBounds_comm _ _ hji]
     exact h3.2.2
theorem takeF {i : Nat} {oi : Oper} {v : Value} (hi : ops[i]? = some oi) (hsel : Region.noSelect ops = true)
  (hQ : ∀ c a w, Q (.panic c) (a.put oi.dst v) w -> Q (.panic c) a w) :
  ∀ (fuel : Nat) (listed : Array Bool) (a : Act) (w : World),
   (∀ j oj, ops[j]? = some oj -> j ≠ i -> listed.getD j true = false -> (∀ e ∈ oj.after, Region.binds md e = true -> e.on ≠ i) -> oi.apart ops oj = true) →
   i ∈ Region.ready md ops listed -> YieldsIf P ops (fun _ => True) oi v a →
   wpAnyL P md ops Q S late fuel (listed.setIfInBounds i true) (a.put oi.dst v) w -> wpAnyL P md ops Q S late (fuel + 1) listed a w
 | fuel, listed, a, w, hfree, hr, hy, H => by
  refine ⟨fun h => (by rw [h] at hr; cases hr), fun j hj => ?_⟩
  have hiun := (mem_ready.1 hr).1
  by_cases hji : j = i
  ·subst hji; exact hy.wpOp hi trivial ⟨fun h _ => h, H⟩
  ·have hjr := ready_mono (i := i) hj hji
   match fuel, H with
   | 0, H => rw [H.1] at hjr; cases hjr
   | fuel + 1, H =>
    obtain ⟨hjun, oj, hoj, hall⟩ := mem_ready.1 hj
    have hnot : ∀ e ∈ oj.after, Region.binds md e = true -> e.on ≠ i := by
     rintro e he hb rfl
     have h1 := hall e he hb
     rcases Nat.lt_or_ge e.on listed.size with h' | h'
     ·simp [h'] at hiun h1; rw [hiun] at h1; cases h1
     ·simp [Array.getElem?_eq_none h'] at h1
    have h2 := wpOp_putIf hoj (hfree j oj hoj hji hjun hnot) (fun cs b => Region.noSelect_spec hsel i oi cs b hi) (fun cs b => Region.noSelect_spec hsel j oj cs b hoj) hQ hy (H.2 j hjr)
    refine wpOp_mono (fun a' w' h3 => ⟨h3.2.1, ?_⟩) h2
    refine takeF hi hsel hQ fuel (listed.setIfInBounds j true) a' w' (fun k ok hk hki hun hno => hfree k ok hk hki ?_ hno) (ready_mono hr (Ne.symm hji)) h3.1 ?_
    ·by_cases hjk : j = k
     ·subst hjk; exact hjun
     ·rw [getD_set_ne true hjk] at hun; exact hun
    ·rw [Array.setIfInBounds_comm _ _ hji]
     exact h3.2.2
theorem wpAnyL_free {i : Nat} {oi : Oper} {v : Value} {fuel : Nat} {listed : Array Bool} {a : Act} {w : World} (hi : ops[i]? = some oi)
  (hs : Region.noSelect ops = true) (hf : Region.free md ops listed i = true) (hr : (Region.ready md ops listed).contains i = true)
  (hQ : ∀ c a w, Q (.panic c) (a.put oi.dst v) w -> Q (.panic c) a w) (hy : YieldsIf P ops (fun _ => True) oi v a)
  (h : wpAnyL P md ops Q S late fuel (listed.setIfInBounds i true) (a.put oi.dst v) w) : wpAnyL P md ops Q S late (fuel + 1) listed a w :=
 takeF hi hs hQ fuel listed a w (Region.free_spec hi hf) (by simpa using hr) hy h
theorem wpAnyL_take {i : Nat} {oi : Oper} {v : Value} {fuel : Nat} {listed : Array Bool} {a : Act} {w : World} (hi : ops[i]? = some oi)
  (hs : Region.noSelect ops = true) (hf : Region.free md ops listed i = true) (hr : (Region.ready md ops listed).contains i = true) (hd : downB md ops listed = true) (hw : lateWait md ops late i = true)
  (hQ : ∀ c a w, Q (.panic c) (a.put oi.dst v) w -> Q (.panic c) a w) (hy : YieldsIf P ops S oi v a) (hS : S w)
  (h : wpAnyL P md ops Q S late fuel (listed.setIfInBounds i true) (a.put oi.dst v) w) : wpAnyL P md ops Q S late (fuel + 1) listed a w :=
 takeL hi hs hw hQ fuel listed a w (downB_spec hd) (Region.free_spec hi hf) (by simpa using hr) hy hS h
theorem wpAnyL_one {i : Nat} {o : Oper} {fuel : Nat} {listed : Array Bool} {a : Act} {w : World} (hr : Region.ready md ops listed = [i]) (ho : ops[i]? = some o)
  (h : ∀ K : Act -> World -> Prop, Hid (∀ a' w', (S w -> late i = false -> S w') -> wpAnyL P md ops Q S late fuel (listed.setIfInBounds i true) a' w' -> K a' w') -> if Region.wanted o (yielded ops a.tmps) then o.wp P a w K Q else K (a.put o.dst undef) w) :
  wpAnyL P md ops Q S late (fuel + 1) listed a w := by
 refine ⟨fun h0 => (by rw [hr] at h0; cases h0), fun j hj => ?_⟩
 rw [hr] at hj
 obtain rfl : j = i := by simpa using hj
 have h1 := h (fun a' w' => (S w -> late j = false -> S w') ∧ wpAnyL P md ops Q S late fuel (listed.setIfInBounds j true) a' w') (fun a' w' x y => ⟨x, y⟩)
 unfold wpOp
 simp only [ho]
 split
 ·next hwt => rw [if_pos hwt] at h1; exact .inl h1
 ·next hwt => rw [if_neg hwt] at h1; exact h1
theorem wpAnyL_done {listed : Array Bool} {a : Act} {w : World} (hr : Region.ready md ops listed = []) (h : Q .normal a w) : ∀ fuel, wpAnyL P md ops Q S late fuel listed a w
 | 0 => ⟨hr, h⟩
 | _ + 1 => ⟨fun _ => h, by rw [hr]; simp⟩
theorem wp_region_late {id : Nat} {a : Act} {w : World} (S : World -> Prop) (late : Nat -> Bool) (hm : P.follows .mixedOrders = true)
  (h : wpAnyL P .any ops Q S late ops.size (Array.replicate ops.size false) a w.drew) : (Code.region id ops true).wp P Q a w :=
 wp_region_any hm (wpAnyL_any _ _ _ _ h)
end
end

end Go.Proofs.YtmklodligplbaaaGreat
