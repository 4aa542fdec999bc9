import Derived.Test.YtngaimahhgmciabGreatDoorNdv
import Derived.Great.Ranges
import Derived.Great.BuildSlice
import Derived.Deep.MidRow
import Derived.Deep.QuietTactic
import Derived.BigQuiet
import Derived.Deep.Cut
import Derived.Deep.CutRange
import Derived.Deep.RegionHeld3
import Derived.Laws.Rows
import Derived.Lib.ConvBytes
import Derived.Test.YtngaimahhgmciabGreatDoorProg
import Derived.Test.YtngaimahhgmciabGreatDoorMemv
namespace Go.Proofs.YtngaimahhgmciabGreatDoor
section
open Go.RowKit
set_option linter.unusedVariables false
set_option linter.unusedSimpArgs false

structure Ent where
  name : List UInt8
  kind : Int
  id : List UInt8

def ent0 : Ent := ⟨[], 0, List.replicate 32 0⟩

def Ent.cells (e : Ent) : List Value := .string ⟨e.name.toArray⟩ :: .int .i64 e.kind :: bys e.id

structure EntOk (e : Ent) : Prop where
  idl : e.id.length = 32
  nam : e.name.length ≤ 4611686018427387904
  kin : (Lit.int .i64 e.kind).wf = true

theorem EntOk.len {e : Ent} (h : EntOk e) : e.cells.length = 34 := by simp [Ent.cells, bys_length, h.idl]

theorem ent_one (e : Ent) : ∀ u ∈ e.cells, u.oneCell' = true := by
  intro u hu
  simp only [Ent.cells, List.mem_cons] at hu
  rcases hu with h | h | h
  · rw [h]; rfl
  · rw [h]; rfl
  · exact bys_oneCell _ _ h

def Ents (w : World) (ao : Option Addr) (L : List Ent) : Prop :=
  ∀ i, i < L.length → ∃ b off, ao = some ⟨b, off, none⟩ ∧ w.rangeAt b (off + i * 34) (L.getD i ent0).cells ∧ EntOk (L.getD i ent0)

theorem Ents.nil (w : World) (ao : Option Addr) : Ents w ao [] := fun i hi => by simp at hi

theorem Ents.kept {l : List Nat} {w w' : World} {ao : Option Addr} {L : List Ent} (h : Ents w ao L) (hk : Kept l w w') (hn : L ≠ [] → ∀ a, ao = some a → a.block ∉ l) : Ents w' ao L := by
  intro i hi
  obtain ⟨b, off, e, hc, ho⟩ := h i hi
  exact ⟨b, off, e, fun j v hv => hk.cellOf (hc j v hv) (hn (by rintro rfl; simp at hi) ⟨b, off, none⟩ e), ho⟩

theorem Ents.below {w w' : World} {ao : Option Addr} {L : List Ent} (h : Ents w ao L) (hb : Below w.heap.size w w') : Ents w' ao L := h.kept (Kept.of_below hb) (by simp)

theorem getD_take {α : Type} {L : List α} {k i : Nat} (h : i < k) (d : α) : (L.take k).getD i d = L.getD i d := by simp [List.getD, List.getElem?_take, h]

theorem Ents.take {w : World} {ao : Option Addr} {L : List Ent} (h : Ents w ao L) (k : Nat) : Ents w ao (L.take k) := by
  intro i hi
  have hi' : i < k ∧ i < L.length := by simp at hi; omega
  rw [getD_take hi'.1]
  exact h i hi'.2

theorem Ents.open {w : World} {ao : Option Addr} {L : List Ent} (h : Ents w ao L) (hn : L ≠ []) : ∃ b off, ao = some ⟨b, off, none⟩ ∧ b < w.heap.size ∧ ∀ i, i < L.length → w.rangeAt b (off + i * 34) (L.getD i ent0).cells ∧ EntOk (L.getD i ent0) := by
  obtain ⟨b, off, e, hc, _⟩ := h 0 (List.length_pos_iff.2 hn)
  refine ⟨b, off, e, World.block_lt_of_cell? _ _ (hc 0 _ rfl), fun i hi => ?_⟩
  obtain ⟨b', off', e', hc'⟩ := h i hi
  rw [e] at e'
  cases e'
  exact hc'

namespace Tn

def lt (a b : List UInt8) : Bool := Op.bytesLess a b

/-- May this entry stand behind these? -/
def may (L : List Ent) (e : Ent) : Bool := decide (L.length ≠ 32) && isK e.kind && valid e.name && (decide (L.length = 0) || lt (L.getD (L.length - 1) ent0).name e.name)

end Tn

theorem below_drewN {B : Nat} {a w : World} (h : Below B a w) (n : Nat) : Below B a (w.drewN n) := ⟨h.os, h.tape, h.output, h.size, h.block⟩

theorem heap_new (w : World) (o : Obj) : (w.alloc o).heap[w.heap.size]? = some o := by rw [(MapKept.heap_alloc w o).1]

set_option maxHeartbeats 1600000 in
set_option maxRecDepth 100000 in
theorem mayFollow_ok (ao : Option Addr) (n cap : Nat) (L : List Ent) (e : Ent) (w : World) (hn : L.length = n) (hL : Ents w ao L) (he : EntOk e) (hT : Tabs w) (hm : n ≤ 4611686018427387904) :
    Calls Tryz.prog 80 #[.slice ao n cap, .agg e.cells.toArray] w fun r w' => r = .returned (.bool (Tn.may L e)) ∧ Below w.heap.size w w' := by
  have hnew := heap_new w (.cells e.cells.toArray 45)
  obtain ⟨W1, hW1⟩ : ∃ W1, w.alloc (.cells e.cells.toArray 45) = W1 := ⟨_, rfl⟩
  have hb1 : Below w.heap.size w W1 := by rw [← hW1]; exact (Below.refl _ w).alloc (Nat.le_refl _) _
  have hs1 : W1.heap.size = w.heap.size + 1 := by rw [← hW1]; simp
  rw [hW1] at hnew
  have c0 : W1.cell? ⟨w.heap.size, 0, none⟩ = some (.string ⟨e.name.toArray⟩) := by rw [cell_of_row _ _ _ _ _ _ hnew]; rfl
  have c1 : W1.cell? ⟨w.heap.size, 1, none⟩ = some (.int .i64 e.kind) := by rw [cell_of_row _ _ _ _ _ _ hnew]; rfl
  have hk := isKind_ok e.kind W1
  have hv := valid_ok e.name W1 he.nam (hT.below hb1)
  have hL1 := hL.below hb1
  have HM : Hid (Tn.may L e = (decide (n ≠ 32) && Tn.isK e.kind && Tn.valid e.name && (decide (n = 0) || Tn.lt (L.getD (n - 1) ent0).name e.name))) := by show _ = _; unfold Tn.may; rw [hn]
  obtain ⟨K, hK⟩ : ∃ K, Tn.isK e.kind = K := ⟨_, rfl⟩
  obtain ⟨V, hV⟩ : ∃ V, Tn.valid e.name = V := ⟨_, rfl⟩
  rw [hK] at hk HM
  rw [hV] at hv HM
  generalize e.kind = kd at *
  generalize e.name = nm at *
  have HB1 : Hid (Below w.heap.size w W1 ∧ W1.heap.size = w.heap.size + 1) := ⟨hb1, hs1⟩
  clear hnew hb1 hs1 hT hK hV
  by_cases h32 : n = 32
  · subst h32
    clear hk hv
    go_enter Tryz.func80, Tryz.ntmps80
    go_wp2_with (refine wpList_boxTo rfl 45 (.tmp 1) rfl (some 3) rfl w.heap.size rfl e.cells.toArray rfl ?_; rw [hW1])
    go_ret
    exact ⟨by rw [HM.out]; rfl, HB1.out.1⟩
  · have n32 : ((n : Int) == 32) = false := by simp; omega
    have n32' : ¬ ((n : Int) = 32) := by omega
    cases K with
    | false =>
      clear hv
      go_enter Tryz.func80, Tryz.ntmps80
      go_wp2_with (first | (refine wpList_boxTo rfl 45 (.tmp 1) rfl (some 3) rfl w.heap.size rfl e.cells.toArray rfl ?_; rw [hW1]) | (go_at_call 90; refine hk.mono ?_; rintro r w2 ⟨rfl, rfl⟩))
      go_ret
      exact ⟨by rw [HM.out]; simp [Act.eval], HB1.out.1⟩
    | true =>
      cases V with
      | false =>
        go_enter Tryz.func80, Tryz.ntmps80
        go_wp2_with (first | (refine wpList_boxTo rfl 45 (.tmp 1) rfl (some 3) rfl w.heap.size rfl e.cells.toArray rfl ?_; rw [hW1]) | (go_at_call 90; refine hk.mono ?_; rintro r w2 ⟨rfl, rfl⟩) | (go_at_call 91; refine hv.mono ?_; rintro r w3 ⟨rfl, hb3⟩))
        go_ret
        exact ⟨by rw [HM.out]; simp [Act.eval], HB1.out.1.trans (hb3.mono (by have := HB1.out.2; omega))⟩
      | true =>
        by_cases h0 : n = 0
        · subst h0
          go_enter Tryz.func80, Tryz.ntmps80
          go_wp2_with (first | (refine wpList_boxTo rfl 45 (.tmp 1) rfl (some 3) rfl w.heap.size rfl e.cells.toArray rfl ?_; rw [hW1]) | (go_at_call 90; refine hk.mono ?_; rintro r w2 ⟨rfl, rfl⟩) | (go_at_call 91; refine hv.mono ?_; rintro r w3 ⟨rfl, hb3⟩; have HB3 := hide hb3; clear hb3))
          go_quiet (fail)
          go_wp2
          go_ret
          exact ⟨by rw [HM.out]; simp [Act.eval], below_drewN (HB1.out.1.trans (HB3.out.mono (by have := HB1.out.2; omega))) _⟩
        · obtain ⟨m, rfl⟩ : ∃ m, n = m + 1 := ⟨n - 1, by omega⟩
          obtain ⟨b, off, rfl, hbl, hcs⟩ := hL1.open (by rintro rfl; simp at hn)
          have hc := (hcs m (by omega)).1 0 _ rfl
          have n0 : (((m : Int) + 1) == 0) = false := by simp; omega
          have n0' : ¬ (((m : Int) + 1) = 0) := by omega
          simp only [Nat.add_zero, Nat.add_sub_cancel] at hc HM
          generalize (L.getD m ent0).name = pn at hc HM
          clear hcs hL hL1
          go_enter Tryz.func80, Tryz.ntmps80
          go_wp2_with (first | (refine wpList_boxTo rfl 45 (.tmp 1) rfl (some 3) rfl w.heap.size rfl e.cells.toArray rfl ?_; rw [hW1]) | (go_at_call 90; refine hk.mono ?_; rintro r w2 ⟨rfl, rfl⟩) | (go_at_call 91; refine hv.mono ?_; rintro r w3 ⟨rfl, hb3⟩; have HB3 := hide hb3; have hc3 : w3.cell? ⟨b, off + m * 34, none⟩ = some (.string ⟨pn.toArray⟩) := (Kept.of_below hb3).cellOf hc (by simp); have c03 : w3.cell? ⟨w.heap.size, 0, none⟩ = some (.string ⟨nm.toArray⟩) := (Kept.of_below hb3).cellOf c0 (by simp); clear hb3 hc c0 c1))
          go_quiet (fail)
          go_wp2
          go_ret
          exact ⟨by rw [HM.out]; simp [Act.eval, Tn.lt]; omega, below_drewN (HB1.out.1.trans (HB3.out.mono (by have := HB1.out.2; omega))) _⟩
end

section
open Go.RowKit
set_option linter.unusedVariables false
set_option linter.unusedSimpArgs false

namespace Tn

/-- Is the entry at i right, behind the one ahead of it? -/
def right (L : List Ent) (i : Nat) : Bool := isK (L.getD i ent0).kind && valid (L.getD i ent0).name && (decide (i = 0) || lt (L.getD (i - 1) ent0).name (L.getD i ent0).name)

/-- P7.2. -/
def isTree (L : List Ent) : Bool := decide (L.length ≤ 32) && (List.range L.length).all (right L)

theorem may_at {L : List Ent} {i : Nat} (h : i < L.length) : may (L.take i) (L.getD i ent0) = (decide (i ≠ 32) && right L i) := by
  have hl : (L.take i).length = i := by simp; omega
  unfold may right
  rw [hl]
  by_cases e : i = 0
  · subst e; simp
  · rw [getD_take (by omega)]
    simp only [Bool.and_assoc]

theorem isTree_yes {L : List Ent} (h : ∀ j, j < L.length → may (L.take j) (L.getD j ent0) = true) : isTree L = true := by
  have hl : L.length ≤ 32 := by
    rcases Nat.lt_or_ge 32 L.length with g | g
    · have := h 32 g
      rw [may_at g] at this
      simp at this
    · exact g
  simp only [isTree, hl, decide_true, Bool.true_and, List.all_eq_true, List.mem_range]
  intro j hj
  have := h j hj
  rw [may_at hj] at this
  simp only [Bool.and_eq_true] at this
  exact this.2

theorem isTree_no {L : List Ent} {k : Nat} (hk : k < L.length) (h : may (L.take k) (L.getD k ent0) = false) : isTree L = false := by
  rw [Bool.eq_false_iff]; intro ht
  simp only [isTree, Bool.and_eq_true, decide_eq_true_eq, List.all_eq_true, List.mem_range] at ht
  rw [may_at hk, ht.2 k hk] at h
  have := ht.1
  simp at h
  omega

theorem isTree_long {L : List Ent} (h : 32 < L.length) : isTree L = false := by
  have : ¬ L.length ≤ 32 := by omega
  simp [isTree, this]

theorem isTree_right {L : List Ent} (hl : L.length ≤ 32) (h : ∀ j, j < L.length → right L j = true) : isTree L = true := by
  simp only [isTree, hl, decide_true, Bool.true_and, List.all_eq_true, List.mem_range]
  exact h

theorem isTree_wrong {L : List Ent} {k : Nat} (hk : k < L.length) (h : right L k = false) : isTree L = false := by
  rw [Bool.eq_false_iff]; intro ht
  simp only [isTree, Bool.and_eq_true, decide_eq_true_eq, List.all_eq_true, List.mem_range] at ht
  rw [ht.2 k hk] at h; cases h

end Tn

/-- A new variable for an entry. -/
def zeroE : Array Value := ent0.cells.toArray

theorem Tryz.zeroEntry (W : World) : (zeroValue 45).run Tryz.prog W = .ok (.agg zeroE) W := by kernel_rfl

theorem Tryz.infoEntry : (Tryz.prog.info? 45).map (·.size) = some 34 := by kernel_rfl

theorem Tryz.cutEnt (W : World) (ao : Option Addr) (L cap m : Nat) (hm : m ≤ cap) :
    (Instr.slice 43 (.slice ao L cap) none (some (.int .i64 m)) none).run Tryz.prog W = .ok (.slice ao m cap) W := by
  have hz : (sizeOf (Tryz.prog.elem 43)).run Tryz.prog W = .ok 34 W := by kernel_rfl
  have h := run_slice_h (P := Tryz.prog) W 43 ao L cap (by kernel_rfl) .i64 m (by omega) (by omega)
  rw [h, hz]
  cases ao <;> simp [sliced, Addr.add]

theorem ent_all (e : Ent) : e.cells.toArray.all (·.oneCell') = true := by
  simp only [List.all_toArray, List.all_eq_true]
  exact ent_one e

theorem ent_size {e : Ent} (h : EntOk e) : e.cells.toArray.size = 34 := by simp [h.len]

/-- The world with a new variable that holds an entry. -/
def withEnt (w : World) (e : Ent) : World := (w.alloc (.cells zeroE 45)).setRow w.heap.size e.cells.toArray

theorem withEnt_below (w : World) (e : Ent) : Below w.heap.size w (withEnt w e) := by
  have h : Below w.heap.size w (w.alloc (.cells zeroE 45)) := (Below.refl _ w).alloc (Nat.le_refl _) _
  exact ⟨h.os, h.tape, h.output, by unfold withEnt; rw [size_setRow]; exact h.size, fun k hk => (setRow_other _ w.heap.size k _ (by omega)).trans (h.block k hk)⟩

theorem withEnt_size (w : World) (e : Ent) : (withEnt w e).heap.size = w.heap.size + 1 := by unfold withEnt; rw [size_setRow]; simp

theorem withEnt_row (w : World) (e : Ent) : (withEnt w e).heap[w.heap.size]? = some (.cells e.cells.toArray 45 (0, 0)) := setRow_heap _ _ _ _ _ _ (heap_new w _)

theorem ent_range {w : World} {g : Nat} {e : Ent} {t : TypeId} {f : Nat × Nat} (h : w.heap[g]? = some (.cells e.cells.toArray t f)) : w.rangeAt g 0 e.cells := fun j v hv => by
  rw [Nat.zero_add, cell_of_row _ _ _ _ _ _ h]; simpa using hv

theorem new_zero (w : World) : (w.alloc (.cells zeroE 45)).heap[w.heap.size]? = some (.cells zeroE 45 (0, 0)) := heap_new w _

theorem zero_size {e : Ent} (h : EntOk e) : zeroE.size = e.cells.toArray.size := by rw [ent_size h]; rfl

namespace Tn

theorem isK_no (k : Int) (h : k < 1 ∨ 3 < k) : isK k = false := by
  rw [Bool.eq_false_iff]; intro a; simp only [isK, Bool.and_eq_true, decide_eq_true_eq] at a; omega

end Tn

set_option maxHeartbeats 3200000 in
set_option maxRecDepth 100000 in
theorem is_some (b off n cap : Nat) (L : List Ent) (w : World) (hn : L.length = n) (h32 : ¬ 32 < n) (hL : Ents w (some ⟨b, off, none⟩) L) :
    Calls Tryz.prog 28 #[.slice (some ⟨b, off, none⟩) n cap] w fun r w' => r = .returned (.bool (Tn.isTree L)) ∧ Below w.heap.size w w' := by
  have HN : Hid (L.length = n) := hn
  have HL : Hid (Ents w (some ⟨b, off, none⟩) L) := hL
  clear hn hL
  have hz := Tryz.zeroEntry
  have n32 : decide (32 < (n : Int)) = false := by simp; omega
  go_enter Tryz.func28, Tryz.ntmps28
  go_wp2
  go_loopw [3] (fun x wr => ∃ k : Nat, k ≤ n ∧ x = .int .i64 k ∧ Hid (Below w.heap.size w wr) ∧ Hid (∀ j, j < k → Tn.right L j = true)) (fun x wr => n - (intOf x).toNat)
  case atStart => exact ⟨0, Nat.zero_le _, rfl, Below.refl _ _, fun j hj => by omega⟩
  case round =>
    obtain ⟨k, hk, rfl, HB, HM⟩ := hrel
    by_cases hlt : k < n
    · have hkl : k < L.length := by rw [HN.out]; exact hlt
      have hL2 := HL.out.below HB.out
      obtain ⟨_, _, hx, hrg, hok⟩ := hL2 k hkl
      cases hx
      obtain ⟨e, he⟩ : ∃ e, L.getD k ent0 = e := ⟨_, rfl⟩
      rw [he] at hrg hok
      have HE : Hid (L.getD k ent0 = e) := he
      have hnz := new_zero wr
      have hil : (Tryz.prog.info? 45).map (·.size) = some e.cells.length := by rw [hok.len]; exact Tryz.infoEntry
      have hia : (Tryz.prog.info? 45).map (·.size) = some e.cells.toArray.size := by rw [ent_size hok]; exact Tryz.infoEntry
      have hzs := zero_size hok
      have hal := ent_all e
      have HOK : Hid (EntOk e) := hok
      clear hok he
      go_upto_region 7 with (first | refine wpList_load_mid rfl 45 (.tmp 16) rfl b (off + k * 34) rfl e.cells _ hrg Tryz.underlying45 rfl hil ?_ | refine wpList_store_rowTo rfl 45 (.tmp 4) (.tmp 17) rfl rfl wr.heap.size e.cells.toArray rfl rfl 45 zeroE hnz hia hzs hal ?_)
      have hW : (wr.alloc (.cells zeroE 45)).setRow wr.heap.size e.cells.toArray = withEnt wr e := rfl
      rw [hW]
      have hWb := withEnt_below wr e
      have hWr := ent_range (withEnt_row wr e)
      have c0 := hWr 0 _ rfl
      have c1 := hWr 1 _ rfl
      have hLW := (HL.out.below HB.out).below hWb
      have HB2 : Hid (Below w.heap.size w (withEnt wr e)) := HB.out.trans (hWb.mono HB.out.size)
      generalize withEnt wr e = W at *
      have HR : Hid (Tn.right L k = (Tn.isK e.kind && Tn.valid e.name && (decide (k = 0) || Tn.lt (L.getD (k - 1) ent0).name e.name))) := by show _ = _; unfold Tn.right; rw [HE.out]
      have hv := refvalid_ok e.name
      have hnm := HOK.out.nam
      clear hW hL2 hrg hWr hWb hnz hil hia hzs hal HE HOK
      generalize e.name = nm at *
      generalize e.kind = kd at *
      replace hv := fun W => hv W hnm
      simp only [Nat.zero_add, Nat.add_zero] at c0 c1
      obtain ⟨V, hV⟩ : ∃ V, Tn.valid nm = V := ⟨_, rfl⟩
      rw [hV] at HR
      simp only [hV] at hv
      clear hV
      cases V with
      | false =>
        go_quiet ((go_at_call 43; exact Calls.quiet_of_same (hv _)))
        go_wp2
        go_ret
        exact ⟨by rw [Tn.isTree_wrong hkl (by rw [HR.out]; simp)]; rfl, below_drewN HB2.out _⟩
      | true =>
        by_cases k1 : kd < 1
        · have k1' : decide (kd < 1) = true := by simp [k1]
          go_quiet ((go_at_call 43; exact Calls.quiet_of_same (hv _)))
          go_wp2
          go_ret
          exact ⟨by rw [Tn.isTree_wrong hkl (by rw [HR.out, Tn.isK_no kd (by omega)]; rfl)]; rfl, below_drewN HB2.out _⟩
        · have k1' : decide (kd < 1) = false := by simp; omega
          by_cases k3 : 3 < kd
          · have k3' : decide (3 < kd) = true := by simp [k3]
            go_quiet ((go_at_call 43; exact Calls.quiet_of_same (hv _)))
            go_wp2
            go_ret
            exact ⟨by rw [Tn.isTree_wrong hkl (by rw [HR.out, Tn.isK_no kd (by omega)]; rfl)]; rfl, below_drewN HB2.out _⟩
          · have k3' : decide (3 < kd) = false := by simp; omega
            have hik : Tn.isK kd = true := by simp [Tn.isK]; omega
            rw [hik] at HR
            by_cases hk0 : k = 0
            · subst hk0
              have kk : decide (0 < ((0 : Nat) : Int)) = false := by simp
              go_quiet ((go_at_call 43; exact Calls.quiet_of_same (hv _)))
              go_wp2
              go_roundw
              case rel =>
                refine ⟨1, by omega, by go_num, below_drewN HB2.out _, fun j hj => ?_⟩
                obtain rfl : j = 0 := by omega
                rw [HR.out]; simp
              case measure => simp [intOf]; omega
            · obtain ⟨m, rfl⟩ : ∃ m, k = m + 1 := ⟨k - 1, by omega⟩
              have kk : decide (0 < (((m + 1 : Nat)) : Int)) = true := decide_eq_true (by omega)
              have kk' : decide (0 < (m : Int) + 1) = true := decide_eq_true (by omega)
              obtain ⟨_, _, hx, hrp, _⟩ := hLW m (by omega)
              cases hx
              have cp := hrp 0 _ rfl
              simp only [Nat.add_zero, Nat.add_sub_cancel] at cp HR
              generalize (L.getD m ent0).name = pn at cp HR
              clear hrp hLW
              obtain ⟨Z, hZ⟩ : ∃ Z, Op.bytesLess pn nm = Z := ⟨_, rfl⟩
              have HZ : Hid (Tn.right L (m + 1) = Z) := by show _ = _; rw [HR.out]; simp [Tn.lt, hZ]
              clear HR
              cases Z with
              | false =>
                go_quiet ((go_at_call 43; exact Calls.quiet_of_same (hv _)))
                go_wp2
                go_ret
                exact ⟨by rw [Tn.isTree_wrong hkl HZ.out]; rfl, below_drewN HB2.out _⟩
              | true =>
                go_quiet ((go_at_call 43; exact Calls.quiet_of_same (hv _)))
                go_wp2
                go_roundw
                case rel =>
                  refine ⟨m + 1 + 1, by omega, by go_num, below_drewN HB2.out _, fun j hj => ?_⟩
                  by_cases e : j = m + 1
                  · subst e; exact HZ.out
                  · exact HM.out j (by omega)
                case measure => simp [intOf]; omega
    · have ht : Hid (Tn.isTree L = true) := Tn.isTree_right (by have := HN.out; omega) (fun j hj => HM.out j (by have := HN.out; omega))
      go_wp2
      go_ret
      exact ⟨by rw [ht.out]; rfl, HB.out⟩

set_option maxHeartbeats 800000 in
set_option maxRecDepth 100000 in
theorem is_none (ao : Option Addr) (cap : Nat) (w : World) :
    Calls Tryz.prog 28 #[.slice ao 0 cap] w fun r w' => r = .returned (.bool true) ∧ w' = w := by
  go_enter Tryz.func28, Tryz.ntmps28
  go_wp2
  go_loopw [3] (fun x wr => wr = w ∧ x = .int .i64 0) (fun x wr => 0)
  case atStart => exact ⟨rfl, rfl⟩
  case round =>
    obtain ⟨rfl, rfl⟩ := hrel
    go_wp2
    go_ret
    exact ⟨rfl, rfl⟩

set_option maxHeartbeats 800000 in
set_option maxRecDepth 100000 in
theorem is_long (ao : Option Addr) (n cap : Nat) (w : World) (h : 32 < n) (hm : n ≤ 9223372036854775807) :
    Calls Tryz.prog 28 #[.slice ao n cap] w fun r w' => r = .returned (.bool false) ∧ w' = w := by
  go_enter Tryz.func28, Tryz.ntmps28
  go_wp2
  go_ret
  exact ⟨rfl, rfl⟩

/-- freightref7.Is. -/
theorem is_ok (ao : Option Addr) (n cap : Nat) (L : List Ent) (w : World) (hn : L.length = n) (hm : n ≤ 9223372036854775807) (hL : Ents w ao L) :
    Calls Tryz.prog 28 #[.slice ao n cap] w fun r w' => r = .returned (.bool (Tn.isTree L)) ∧ Below w.heap.size w w' := by
  by_cases h0 : L = []
  · subst h0
    obtain rfl : n = 0 := by simpa using hn.symm
    refine (is_none ao cap w).mono ?_
    rintro r w' ⟨rfl, rfl⟩
    exact ⟨rfl, Below.refl _ _⟩
  · by_cases h1 : 32 < n
    · refine (is_long ao n cap w h1 hm).mono ?_
      rintro r w' ⟨rfl, rfl⟩
      exact ⟨by rw [Tn.isTree_long (by rw [hn]; exact h1)], Below.refl _ _⟩
    · obtain ⟨b, off, rfl, _, _⟩ := hL.open h0
      exact is_some b off n cap L w hn h1 hL
end

section
open Go.RowKit
set_option linter.unusedVariables false
set_option linter.unusedSimpArgs false

namespace Tn

/-- P7.3: an entry's form, a tree's. -/
def encE (e : Ent) : List UInt8 := UInt8.ofNat e.kind.toNat :: UInt8.ofNat e.name.length :: (e.name ++ e.id)

def encT (L : List Ent) : List UInt8 := 84 :: UInt8.ofNat L.length :: L.flatMap encE

/-- What Encode answers. -/
def encd (L : List Ent) : List UInt8 := if isTree L then encT L else []

def code (b : Bool) : Int := if b then 0 else 70

theorem encE_len (e : Ent) (h : EntOk e) : (encE e).length = 34 + e.name.length := by simp [encE, h.idl]; omega

theorem flat_snoc (L : List Ent) (k : Nat) (h : k < L.length) : (L.take (k + 1)).flatMap encE = (L.take k).flatMap encE ++ encE (L.getD k ent0) := by
  have e : L.getD k ent0 = L[k] := by simp [List.getD, List.getElem?_eq_getElem h]
  rw [e, List.take_succ_eq_append_getElem h, List.flatMap_append]
  simp only [List.flatMap_cons, List.flatMap_nil, List.append_nil]

theorem isTree_at {L : List Ent} (h : isTree L = true) {k : Nat} (hk : k < L.length) : 1 ≤ (L.getD k ent0).kind ∧ (L.getD k ent0).kind ≤ 3 ∧ (L.getD k ent0).name.length ≤ 32 := by
  simp only [isTree, Bool.and_eq_true, decide_eq_true_eq, List.all_eq_true, List.mem_range] at h
  have := h.2 k hk
  simp only [right, isK, valid, Bool.and_eq_true, decide_eq_true_eq, Bool.not_eq_true', Bool.or_eq_false_iff, decide_eq_false_iff_not] at this
  refine ⟨this.1.1.1, this.1.1.2, ?_⟩
  have := this.1.2.1.1.1.2
  omega

theorem isTree_len {L : List Ent} (h : isTree L = true) : L.length ≤ 32 := by
  simp only [isTree, Bool.and_eq_true, decide_eq_true_eq] at h
  exact h.1

theorem flat_len {L : List Ent} (hL : ∀ i, i < L.length → EntOk (L.getD i ent0)) (h : isTree L = true) (k : Nat) (hk : k ≤ L.length) : ((L.take k).flatMap encE).length ≤ 66 * k := by
  induction k with
  | zero => simp
  | succ k ih =>
    rw [flat_snoc L k (by omega), List.length_append, encE_len _ (hL k (by omega))]
    have := ih (by omega)
    have := (isTree_at h (show k < L.length by omega)).2.2
    omega

end Tn

theorem Tryz.slice32 (W : World) (b o : Nat) :
    (Instr.sliceAt 36 (.pointer (some ⟨b, o, none⟩)) none none none).run Tryz.prog W = .ok (.slice (some ⟨b, o, none⟩) 32 32) W := by
  have ha : Tryz.prog.arrayLen 36 = 32 := by kernel_rfl
  have hz : (sizeOf (Tryz.prog.elem 36)).run Tryz.prog W = .ok 1 W := by kernel_rfl
  have h := run_sliceAt_array_all (P := Tryz.prog) W 36 ⟨b, o, none⟩ (by kernel_rfl)
  rw [h, hz, ha]
  simp [slicedAt, Addr.add_mid]

/-- []byte(s). -/
theorem of_str (w : World) (s : List UInt8) : ∃ c w', (convert 9 33 (.string ⟨s.toArray⟩)).run Tryz.prog w = .ok (.slice (some ⟨w.heap.size, 0, none⟩) s.length c) w' ∧ s.length ≤ c ∧ Sl w' (some ⟨w.heap.size, 0, none⟩) s ∧ Kept [] w w' ∧ w'.heap.size = w.heap.size + 1 := by
  have h := Lib.run_convert_string_bytes (P := Tryz.prog) w 9 33 5 ⟨s.toArray⟩ Tryz.underlying9 Tryz.underlying33 Tryz.underlying5
  rw [str_size] at h
  refine ⟨_, _, h, grownCap_ge w s.length 0 5, Sl.of fun i hi => ?_, ⟨rfl, rfl, rfl, by rw [Lib.bytesWorld_size]; omega, fun k hk _ => Lib.bytesWorld_at_old w _ _ k hk⟩, Lib.bytesWorld_size _ _ _⟩
  rw [Nat.zero_add, Lib.bytesWorld_cell w _ _ i (by rw [str_size]; exact hi)]

theorem own_base {w : World} {b1 b2 : Nat} {e : TypeId} {size : Nat} {v : Value} {n : Nat} {xs : List Value} (h : w.ownsRow b1 e size v n xs) (hb : b2 ≤ b1) : w.ownsRow b2 e size v n xs := by
  refine ⟨h.1, ?_⟩
  rcases h.2 with h1 | ⟨g, cap, cur, h1, h2, h3⟩
  · exact .inl h1
  · exact .inr ⟨g, cap, cur, h1, Nat.le_trans hb h2, h3⟩

/-- What an Encode answers: bytes of its own and a number. -/
def Told (w w' : World) (r : Ending) (b : Bool) (xs : List UInt8) : Prop :=
  (∃ v, r = .returned (.tuple #[v, .int .i64 (Tn.code b)]) ∧ w'.ownsRow w.heap.size 5 1 v xs.length (bys xs)) ∧ Below w.heap.size w w'
end

section
open Go.RowKit
set_option linter.unusedVariables false

theorem ret_int {k : IntKind} {a b : Int} (h : a = b) : Ending.returned (.int k a) = .returned (.int k b) := by rw [h]

/-- A Reader lies at the head of block b: its error and place, its data, where it stands. -/
structure Rd (w : World) (b : Nat) (e p : Int) (ao : Option Addr) (cap : Nat) (xs : List UInt8) (at_ : Nat) : Prop where
  c0 : w.cell? ⟨b, 0, none⟩ = some (.int .i64 e)
  c1 : w.cell? ⟨b, 1, none⟩ = some (.int .i64 p)
  c2 : w.cell? ⟨b, 2, none⟩ = some (.slice ao xs.length cap)
  c3 : w.cell? ⟨b, 3, none⟩ = some (.int .i64 at_)
  f0 : w.frozen? ⟨b, 0, none⟩ = false
  f1 : w.frozen? ⟨b, 1, none⟩ = false
  f3 : w.frozen? ⟨b, 3, none⟩ = false
  le : at_ ≤ xs.length
  lc : xs.length ≤ cap
  small : xs.length ≤ 140737488355328
  sl : Sl w ao xs
  nil : ao = none → xs = [] ∧ cap = 0
  spot : ∀ a, ao = some a → a.spot = none
  apart : ∀ a, ao = some a → a.block ≠ b

theorem Rd.kept {l : List Nat} {w w' : World} {b : Nat} {e p : Int} {ao : Option Addr} {cap : Nat} {xs : List UInt8} {at_ : Nat} (h : Rd w b e p ao cap xs at_) (hk : Kept l w w') (hn : b ∉ l) (hs : xs ≠ [] → ∀ a, ao = some a → a.block ∉ l) : Rd w' b e p ao cap xs at_ := by
  have hb := World.block_lt_of_cell? _ _ h.c0
  exact ⟨hk.cellOf h.c0 hn, hk.cellOf h.c1 hn, hk.cellOf h.c2 hn, hk.cellOf h.c3 hn, (hk.frozen (p := ⟨b, 0, none⟩) hb hn).trans h.f0, (hk.frozen (p := ⟨b, 1, none⟩) hb hn).trans h.f1, (hk.frozen (p := ⟨b, 3, none⟩) hb hn).trans h.f3, h.le, h.lc, h.small, h.sl.kept hk hs, h.nil, h.spot, h.apart⟩

theorem Rd.lt {w : World} {b : Nat} {e p : Int} {ao : Option Addr} {cap : Nat} {xs : List UInt8} {at_ : Nat} (h : Rd w b e p ao cap xs at_) : b < w.heap.size := World.block_lt_of_cell? _ _ h.c0

theorem Rd.drewN {w : World} {b : Nat} {e p : Int} {ao : Option Addr} {cap : Nat} {xs : List UInt8} {at_ : Nat} (h : Rd w b e p ao cap xs at_) (n : Nat) : Rd (w.drewN n) b e p ao cap xs at_ :=
  h.kept ((Kept.refl [] w).drewN n) (by simp) (by simp)

/-- It stands elsewhere. -/
theorem Rd.moved {w : World} {b : Nat} {e p : Int} {ao : Option Addr} {cap : Nat} {xs : List UInt8} {at_ : Nat} (h : Rd w b e p ao cap xs at_) (n : Nat) (hn : n ≤ xs.length) :
    Rd (w.setCell ⟨b, 3, none⟩ (.int .i64 n)) b e p ao cap xs n := by
  refine ⟨?_, ?_, ?_, ?_, ?_, ?_, ?_, hn, h.lc, h.small, ?_, h.nil, h.spot, h.apart⟩
  · rw [World.cell?_setCell_other _ _ _ _ (by simp)]; exact h.c0
  · rw [World.cell?_setCell_other _ _ _ _ (by simp)]; exact h.c1
  · rw [World.cell?_setCell_other _ _ _ _ (by simp)]; exact h.c2
  · exact World.cell?_setCell_same _ _ _ h.c3
  · rw [World.frozen?_setCell]; exact h.f0
  · rw [World.frozen?_setCell]; exact h.f1
  · rw [World.frozen?_setCell]; exact h.f3
  · exact h.sl.kept ((Kept.refl [b] w).setCell (by simp) _) (fun _ a ha => by simpa using h.apart a ha)

/-- It is spoilt. -/
theorem Rd.refused {w : World} {b : Nat} {e p : Int} {ao : Option Addr} {cap : Nat} {xs : List UInt8} {at_ : Nat} (h : Rd w b e p ao cap xs at_) (e' p' : Int) :
    Rd ((w.setCell ⟨b, 0, none⟩ (.int .i64 e')).setCell ⟨b, 1, none⟩ (.int .i64 p')) b e' p' ao cap xs at_ := by
  refine ⟨?_, ?_, ?_, ?_, ?_, ?_, ?_, h.le, h.lc, h.small, ?_, h.nil, h.spot, h.apart⟩
  · rw [World.cell?_setCell_other _ _ _ _ (by simp)]; exact World.cell?_setCell_same _ _ _ h.c0
  · refine World.cell?_setCell_same _ _ _ (u := .int .i64 p) ?_
    rw [World.cell?_setCell_other _ _ _ _ (by simp)]; exact h.c1
  · rw [World.cell?_setCell_other _ _ _ _ (by simp), World.cell?_setCell_other _ _ _ _ (by simp)]; exact h.c2
  · rw [World.cell?_setCell_other _ _ _ _ (by simp), World.cell?_setCell_other _ _ _ _ (by simp)]; exact h.c3
  · rw [World.frozen?_setCell, World.frozen?_setCell]; exact h.f0
  · rw [World.frozen?_setCell, World.frozen?_setCell]; exact h.f1
  · rw [World.frozen?_setCell, World.frozen?_setCell]; exact h.f3
  · exact h.sl.kept (((Kept.refl [b] w).setCell (by simp) _).setCell (by simp) _) (fun _ a ha => by simpa using h.apart a ha)

theorem kept_moved (w : World) (b n : Nat) (v : Value) : Kept [b] w ((w.drewN n).setCell ⟨b, 3, none⟩ v) := ((Kept.refl [b] w).drewN n).setCell (by simp) _
theorem kept_refused (w : World) (b n : Nat) (u v : Value) : Kept [b] w (((w.drewN n).setCell ⟨b, 0, none⟩ u).setCell ⟨b, 1, none⟩ v) := (((Kept.refl [b] w).drewN n).setCell (by simp) _).setCell (by simp) _

set_option maxHeartbeats 400000 in
theorem left_nil (w : World) :
    Calls Tryz.prog 81 #[.pointer none] w fun e' w' => e' = .returned (.int .i64 0) ∧ w' = w := by
  go_enter Tryz.func81, Tryz.ntmps81
  go_wp2
  go_ret
  exact ⟨rfl, rfl⟩

set_option maxHeartbeats 400000 in
theorem left_bad {w : World} {b : Nat} {e p : Int} {ao : Option Addr} {cap : Nat} {xs : List UInt8} {at_ : Nat} (h : Rd w b e p ao cap xs at_) (he : e ≠ 0) :
    Calls Tryz.prog 81 #[.pointer (some ⟨b, 0, none⟩)] w fun e' w' => e' = .returned (.int .i64 0) ∧ w' = w := by
  have h0 := h.c0
  have hne : (e != 0) = true := by simpa using he
  clear h
  go_enter Tryz.func81, Tryz.ntmps81
  go_wp2
  go_ret
  exact ⟨rfl, rfl⟩

set_option maxHeartbeats 400000 in
theorem left_ok {w : World} {b : Nat} {p : Int} {ao : Option Addr} {cap : Nat} {xs : List UInt8} {at_ : Nat} (h : Rd w b 0 p ao cap xs at_) :
    Calls Tryz.prog 81 #[.pointer (some ⟨b, 0, none⟩)] w fun e' w' => e' = .returned (.int .i64 (xs.length - at_ : Nat)) ∧ ∃ n, w' = w.drewN n := by
  have h0 := h.c0
  have h2 := h.c2
  have h3 := h.c3
  have hs := h.small
  have hl := h.le
  have hlc := h.lc
  clear h
  go_enter Tryz.func81, Tryz.ntmps81
  go_wp2
  go_quiet (fail)
  go_wp2
  go_ret
  exact ⟨ret_int (by omega), _, rfl⟩

set_option maxHeartbeats 400000 in
theorem err_nil (w : World) :
    Calls Tryz.prog 87 #[.pointer none] w fun e' w' => e' = .returned (.tuple #[.int .i64 0, .int .i64 0]) ∧ w' = w := by
  go_enter Tryz.func87, Tryz.ntmps87
  go_wp2
  go_ret2
  exact ⟨rfl, rfl⟩

set_option maxHeartbeats 400000 in
theorem err_any {w : World} {b : Nat} {e p : Int} {ao : Option Addr} {cap : Nat} {xs : List UInt8} {at_ : Nat} (h : Rd w b e p ao cap xs at_) :
    Calls Tryz.prog 87 #[.pointer (some ⟨b, 0, none⟩)] w fun e' w' => e' = .returned (.tuple #[.int .i64 e, .int .i64 p]) ∧ ∃ n, w' = w.drewN n := by
  have h0 := h.c0
  have h1 := h.c1
  clear h
  go_enter Tryz.func87, Tryz.ntmps87
  go_wp2
  go_quiet (fail)
  go_wp2
  go_ret2
  exact ⟨rfl, _, rfl⟩

set_option maxHeartbeats 400000 in
/-- first.refuse where nothing went wrong yet. -/
theorem refuse_ok (b : Nat) (p e' p' : Int) (w : World) (h0 : w.cell? ⟨b, 0, none⟩ = some (.int .i64 0)) (h1 : w.cell? ⟨b, 1, none⟩ = some (.int .i64 p)) (f0 : w.frozen? ⟨b, 0, none⟩ = false) (f1 : w.frozen? ⟨b, 1, none⟩ = false) :
    Calls Tryz.prog 84 #[.pointer (some ⟨b, 0, none⟩), .int .i64 e', .int .i64 p'] w fun r w' => r = .returned (.tuple #[]) ∧ w' = (w.setCell ⟨b, 0, none⟩ (.int .i64 e')).setCell ⟨b, 1, none⟩ (.int .i64 p') := by
  go_enter Tryz.func84, Tryz.ntmps84
  go_wp2
  go_end0
  exact ⟨rfl, rfl⟩

set_option maxHeartbeats 400000 in
theorem rclosed_ok (b : Nat) (w : World) (h0 : w.cell? ⟨b, 0, none⟩ = some (.int .i64 0)) :
    Calls Tryz.prog 83 #[.pointer (some ⟨b, 0, none⟩)] w fun e w' => e = .returned (.bool false) ∧ w' = w := by
  go_enter Tryz.func83, Tryz.ntmps83
  go_wp2
  go_ret
  exact ⟨rfl, rfl⟩

set_option maxHeartbeats 400000 in
theorem spoilt_any (b : Nat) (e0 : Int) (w : World) (h : w.cell? ⟨b, 0, none⟩ = some (.int .i64 e0)) :
    Calls Tryz.prog 92 #[.pointer (some ⟨b, 0, none⟩)] w fun e w' => e = .returned (.bool (e0 != 0)) ∧ w' = w := by
  go_enter Tryz.func92, Tryz.ntmps92
  go_wp2
  go_ret
  exact ⟨rfl, rfl⟩
end

end Go.Proofs.YtngaimahhgmciabGreatDoor
