/-
  Contract: freightlaw4.same.
-/
import Derived.Test.YtcgkjdchkpnldabUa
import Derived.Deep.QuietTactic
import Derived.BigQuiet
import Derived.WalkArith
import Derived.Deep.OwnRows
namespace Go.Proofs.Ytcgkjdchkpnldab
open Go.RowKit
set_option linter.unusedVariables false
set_option linter.unusedSimpArgs false

theorem take_snoc' (l : List UInt8) (d : UInt8) (k : Nat) (h : k < l.length) : l.take (k + 1) = l.take k ++ [l.getD k d] := by
  rw [List.take_succ_eq_append_getElem h]
  simp [List.getElem?_eq_getElem h]

set_option maxHeartbeats 800000 in
set_option maxRecDepth 100000 in
theorem same_some (b1 o1 c1 b2 o2 c2 n : Nat) (xs ys : List UInt8) (w : World) (hx : xs.length = n) (hy : ys.length = n) (hm : n ≤ 4611686018427387904)
    (h1 : ∀ i, i < xs.length → w.cell? ⟨b1, o1 + i, none⟩ = some (.int .u8 (xs.getD i 0).toNat)) (h2 : ∀ i, i < ys.length → w.cell? ⟨b2, o2 + i, none⟩ = some (.int .u8 (ys.getD i 0).toNat)) :
    Calls Try.prog 8 #[.slice (some ⟨b1, o1, none⟩) n c1, .slice (some ⟨b2, o2, none⟩) n c2] w fun e w' => e = .returned (.bool (decide (xs = ys))) ∧ ∃ k, w' = w.drewN k := by
  go_enter Try.func8, Try.ntmps8
  go_wp2
  go_loopw [5] (fun i wr => ∃ k : Nat, k ≤ n ∧ i = .int .i64 k ∧ xs.take k = ys.take k ∧ ∃ j, wr = w.drewN j) (fun i wr => n - (intOf i).toNat)
  case atStart => exact ⟨0, Nat.zero_le _, rfl, by simp, 0, rfl⟩
  case round =>
    obtain ⟨k, hk, rfl, heq, j, hwr⟩ := hrel
    subst hwr
    have HE : Hid (xs.take k = ys.take k) := heq
    clear heq
    by_cases hlt : k < n
    · have e1 := h1 k (by omega)
      have e2 := h2 k (by omega)
      have hc1 : (xs.getD k 0).toNat < 256 := UInt8.toNat_lt _
      have hc2 : (ys.getD k 0).toNat < 256 := UInt8.toNat_lt _
      by_cases hcc : xs.getD k 0 = ys.getD k 0
      · have hcn : (((xs.getD k 0).toNat : Int) != ((ys.getD k 0).toNat : Int)) = false := by rw [hcc]; simp
        have HC : Hid (xs.getD k 0 = ys.getD k 0) := hcc
        clear hcc h1 h2
        generalize (xs.getD k 0).toNat = c at e1 hcn hc1
        generalize (ys.getD k 0).toNat = d at e2 hcn hc2
        go_wp2
        go_quiet (fail)
        go_wp2
        go_roundw
        case rel => exact ⟨k + 1, by omega, by go_num, by rw [take_snoc' xs 0 k (by omega), take_snoc' ys 0 k (by omega), HE.out, HC.out], _, rfl⟩
        case measure => simp [intOf]; omega
      · have hcn : (((xs.getD k 0).toNat : Int) != ((ys.getD k 0).toNat : Int)) = true := by
          simp only [bne_iff_ne, ne_eq]
          intro h
          exact hcc (UInt8.toNat_inj.1 (by omega))
        have hfin : Hid (decide (xs = ys) = false) := by
          show _ = _
          simp only [decide_eq_false_iff_not]
          rintro rfl
          exact hcc rfl
        clear hcc h1 h2
        generalize (xs.getD k 0).toNat = c at e1 hcn hc1
        generalize (ys.getD k 0).toNat = d at e2 hcn hc2
        go_wp2
        go_quiet (fail)
        go_wp2
        go_ret
        exact ⟨by rw [hfin.out]; rfl, j + nq, by simp⟩
    · have hfin : Hid (decide (xs = ys) = true) := by
        have := HE.out
        rw [List.take_of_length_le (by omega), List.take_of_length_le (by omega)] at this
        show _ = _
        simpa using this
      clear h1 h2
      go_wp2
      go_ret
      exact ⟨by rw [hfin.out]; rfl, j, rfl⟩

set_option maxHeartbeats 800000 in
set_option maxRecDepth 100000 in
theorem same_len (a1 a2 : Option Addr) (n1 c1 n2 c2 : Nat) (w : World) (hn : n1 ≠ n2) :
    Calls Try.prog 8 #[.slice a1 n1 c1, .slice a2 n2 c2] w fun e w' => e = .returned (.bool false) ∧ w' = w := by
  have h : ((n1 : Int) != (n2 : Int)) = true := by simp; omega
  go_enter Try.func8, Try.ntmps8
  go_wp2
  go_ret
  exact ⟨rfl, rfl⟩

set_option maxHeartbeats 800000 in
set_option maxRecDepth 100000 in
theorem same_none (a1 a2 : Option Addr) (c1 c2 : Nat) (w : World) :
    Calls Try.prog 8 #[.slice a1 0 c1, .slice a2 0 c2] w fun e w' => e = .returned (.bool true) ∧ w' = w := by
  go_enter Try.func8, Try.ntmps8
  go_wp2
  go_loop [5] (fun i => i = .int .i64 0) (fun i => 0)
  case atStart => rfl
  case round =>
    subst hrel
    go_wp2
    go_ret
    exact ⟨rfl, rfl⟩

/-- freightlaw4.same: are two rows of bytes alike? -/
theorem same_any (a1 a2 : Option Addr) (n1 c1 n2 c2 : Nat) (xs ys : List UInt8) (w : World) (hx : xs.length = n1) (hy : ys.length = n2) (hm : n1 ≤ 4611686018427387904) (h1 : Sl w a1 xs) (h2 : Sl w a2 ys) :
    Calls Try.prog 8 #[.slice a1 n1 c1, .slice a2 n2 c2] w fun e w' => e = .returned (.bool (decide (xs = ys))) ∧ ∃ k, w' = w.drewN k := by
  by_cases hn : n1 = n2
  · subst hn
    by_cases h0 : xs = []
    · subst h0
      obtain rfl : ys = [] := List.eq_nil_of_length_eq_zero (by rw [hy, ← hx]; rfl)
      obtain rfl : n1 = 0 := by simpa using hx.symm
      exact (same_none a1 a2 c1 c2 w).mono fun e w' ⟨he, hw⟩ => ⟨he, 0, hw⟩
    · have h0' : ys ≠ [] := fun h => h0 (List.eq_nil_of_length_eq_zero (by rw [hx, ← hy, h]; rfl))
      obtain ⟨b1, o1, rfl, _, hc1⟩ := h1.open h0
      obtain ⟨b2, o2, rfl, _, hc2⟩ := h2.open h0'
      exact same_some b1 o1 c1 b2 o2 c2 n1 xs ys w hx hy hm hc1 hc2
  · refine (same_len a1 a2 n1 c1 n2 c2 w hn).mono fun e w' ⟨he, hw⟩ => ⟨?_, 0, hw⟩
    rw [he]
    have : decide (xs = ys) = false := by
      simp only [decide_eq_false_iff_not]
      rintro rfl
      exact hn (hx.symm.trans hy)
    rw [this]


theorem row_sl {w : World} {g : Nat} {L : List UInt8} {t : TypeId} (h : w.heap[g]? = some (.cells (bys L).toArray t (0, 0))) : Sl w (some ⟨g, 0, none⟩) L :=
  Sl.of fun i hi => by rw [Nat.zero_add, cell_of_row _ _ _ _ _ _ h, List.getElem?_toArray, bys_at hi]
theorem row_cell {w : World} {g : Nat} {L : List UInt8} {t : TypeId} (h : w.heap[g]? = some (.cells (bys L).toArray t (0, 0))) (i : Nat) (hi : i < L.length) : w.cell? ⟨g, i, none⟩ = some (.int .u8 (L.getD i 0).toNat) := by
  rw [cell_of_row _ _ _ _ _ _ h, List.getElem?_toArray, bys_at hi]
theorem row_set {w : World} {g : Nat} {L : List UInt8} {t : TypeId} (h : w.heap[g]? = some (.cells (bys L).toArray t (0, 0))) (i : Nat) (x : UInt8) : (w.setCell ⟨g, i, none⟩ (.int .u8 x.toNat)).heap[g]? = some (.cells (bys (L.set i x)).toArray t (0, 0)) := by
  rw [heap_setCell_same w g i _ _ _ h, ← bys_set]; simp
theorem made_bys (m : Nat) : madeCells #[.int .u8 0] m = (bys (List.replicate m 0)).toArray := by
  apply Array.ext'
  rw [toList_madeCells_one]
  simp [bys]

/-- Nine marks. -/
def nine : List UInt8 := List.replicate 9 167
/-- A row with its room. -/
def Room (w : World) (g : Nat) (ds : List UInt8) : Prop := w.heap[g]? = some (.cells (bys (ds ++ nine)).toArray 5 (0, 0))
theorem Room.lt {w : World} {g : Nat} {ds : List UInt8} (h : Room w g ds) : g < w.heap.size := (Array.getElem?_eq_some_iff.1 h).1
theorem Room.kept {l : List Nat} {w w' : World} {g : Nat} {ds : List UInt8} (h : Room w g ds) (hk : Kept l w w') (hn : g ∉ l) : Room w' g ds := (hk.block g h.lt hn).trans h
theorem Room.below {B : Nat} {w w' : World} {g : Nat} {ds : List UInt8} (h : Room w g ds) (hk : Below B w w') (hn : g < B) : Room w' g ds := (hk.block g hn).trans h
theorem Room.sl {w : World} {g : Nat} {ds : List UInt8} (h : Room w g ds) : Sl w (some ⟨g, 0, none⟩) ds := by
  have := (row_sl h).take ds.length
  rwa [List.take_left] at this

def fillTo (L : List UInt8) (i : Nat) : List UInt8 := L.take i ++ List.replicate (L.length - i) 0
theorem fillTo_len (L : List UInt8) (i : Nat) (h : i ≤ L.length) : (fillTo L i).length = L.length := by simp [fillTo]; omega
theorem fillTo_step (L : List UInt8) (i : Nat) (h : i < L.length) : (fillTo L i).set i (L.getD i 0) = fillTo L (i + 1) := by
  unfold fillTo
  rw [show L.length - i = (L.length - (i + 1)) + 1 by omega, List.replicate_succ, List.set_append_right _ _ (by simp; omega)]
  rw [show i - (L.take i).length = 0 by simp; omega, List.set_cons_zero, take_snoc' L 0 i h]
  simp
theorem fillTo_full (L : List UInt8) : fillTo L L.length = L := by simp [fillTo]

set_option maxHeartbeats 1000000 in
set_option maxRecDepth 100000 in
theorem roomy_ok (da : Option Addr) (dc n : Nat) (ds : List UInt8) (w : World) (hs : Sl w da ds) (hn : ds.length = n) (hm : n ≤ 140737488355328) :
    Calls Try.prog 7 #[.slice da n dc] w fun e w' => ∃ g, e = .returned (.tuple #[.slice (some ⟨g, 0, none⟩) n (n + 9), .slice (some ⟨g, 0, none⟩) (n + 9) (n + 9)]) ∧ w.heap.size ≤ g ∧ Room w' g ds ∧ Kept [] w w' := by
  have hmk := run_make_row' (P := Try.prog) 22 5 (.int .u8 0) 1 Try.underlying22 Try.infoByte rfl .i64 .i64 (n + 9) (by omega) (by omega)
  rw [made_bys, show ((n + 9 : Nat) : Int) = (n : Int) + 9 by omega] at hmk
  have hcut := fun W ao => Try.cutTo W ao (n + 9) (n + 9) n (by omega)
  have HS := hide hs
  have HN := hide hn
  clear hs hn
  go_enter Try.func7, Try.ntmps7
  go_wp2
  have HR0 : Hid ((w.alloc (.cells (bys (List.replicate (n + 9) 0)).toArray 5)).heap[w.heap.size]? = some (.cells (bys (fillTo (ds ++ nine) 0)).toArray 5 (0, 0)) ∧ Kept [] w (w.alloc (.cells (bys (List.replicate (n + 9) 0)).toArray 5))) := ⟨by
    have : fillTo (ds ++ nine) 0 = List.replicate (n + 9) 0 := by simp [fillTo, nine, HN.out]
    rw [this]; exact (MapKept.heap_alloc _ _).1, (Kept.refl [] w).alloc _⟩
  have HGE : Hid (w.heap.size ≤ w.heap.size) := Nat.le_refl _
  generalize w.alloc (.cells (bys (List.replicate (n + 9) 0)).toArray 5) = w1 at HR0 ⊢
  generalize hg : w.heap.size = g at HR0 ⊢
  rw [hg] at HGE
  have HG : Hid (w.heap.size ≤ g) := by show _ ≤ _; omega
  clear hg HGE hmk
  go_wp2
  go_loopw [5] (fun i wr => ∃ k : Nat, k ≤ n + 9 ∧ i = .int .i64 k ∧ Hid (wr.heap[g]? = some (.cells (bys (fillTo (ds ++ nine) k)).toArray 5 (0, 0)) ∧ Kept [] w wr)) (fun i _ => n + 9 - (intOf i).toNat)
  case atStart => exact ⟨0, Nat.zero_le _, rfl, HR0.out⟩
  case round =>
    clear HR0
    obtain ⟨k, hk, rfl, HK⟩ := hrel
    have hL : (ds ++ nine).length = n + 9 := by simp [nine, HN.out]
    by_cases hlt : k < n + 9
    · have hq1 : (k : Int) < (n : Int) + 9 := by omega
      have hfl : k < (fillTo (ds ++ nine) k).length := by rw [fillTo_len _ _ (by omega)]; omega
      have cg := row_cell HK.out.1 k hfl
      have fg := frozen_of_row wr g k _ _ HK.out.1
      have hs1 := row_set HK.out.1 k 167
      have hst := fillTo_step (ds ++ nine) k (by omega)
      by_cases hd : k < n
      · have hq2 : (k : Int) < (n : Int) := by omega
        obtain ⟨pb, po, hda, hpb, hcell⟩ := HS.out.open (by rintro rfl; have := HN.out; simp at this; omega)
        subst hda
        obtain ⟨x, hx⟩ : ∃ x, ds.getD k 0 = x := ⟨_, rfl⟩
        have hget : (ds ++ nine).getD k 0 = x := by rw [← hx, List.getD_eq_getElem?_getD, List.getD_eq_getElem?_getD, List.getElem?_append_left (by have := HN.out; omega)]
        rw [hget] at hst
        have cx := HK.out.2.cellOf (hcell k (by have := HN.out; omega)) (by simp)
        rw [hx] at cx
        have hpg : pb ≠ g := by have := HG.out; omega
        have hs2 := row_set hs1 k x
        rw [List.set_set, hst] at hs2
        have HF : Hid (((wr.setCell ⟨g, k, none⟩ (.int .u8 167)).setCell ⟨g, k, none⟩ (.int .u8 x.toNat)).heap[g]? = some (.cells (bys (fillTo (ds ++ nine) (k + 1))).toArray 5 (0, 0)) ∧ Kept [] w ((wr.setCell ⟨g, k, none⟩ (.int .u8 167)).setCell ⟨g, k, none⟩ (.int .u8 x.toNat))) := ⟨hs2, (HK.out.2.setCell (p := ⟨g, k, none⟩) (by simp; have := HG.out; omega) _).setCell (p := ⟨g, k, none⟩) (by simp; have := HG.out; omega) _⟩
        generalize (((fillTo (ds ++ nine) k).getD k 0).toNat) = old at cg
        clear hs1 hs2 hst hget hx hcell hfl
        go_wp2
        go_roundw
        case rel => exact ⟨k + 1, by omega, by go_num, HF.out⟩
        case measure => simp [intOf]; omega
      · have hq2 : ¬ ((k : Int) < (n : Int)) := by omega
        have hget : (ds ++ nine).getD k 0 = 167 := by
          rw [List.getD_eq_getElem?_getD, List.getElem?_append_right (by have := HN.out; omega), nine, List.getElem?_replicate, if_pos (by have := HN.out; omega)]; rfl
        rw [hget] at hst
        rw [hst] at hs1
        have HF : Hid ((wr.setCell ⟨g, k, none⟩ (.int .u8 167)).heap[g]? = some (.cells (bys (fillTo (ds ++ nine) (k + 1))).toArray 5 (0, 0)) ∧ Kept [] w (wr.setCell ⟨g, k, none⟩ (.int .u8 167))) := ⟨hs1, HK.out.2.setCell (p := ⟨g, k, none⟩) (by simp; have := HG.out; omega) _⟩
        generalize (((fillTo (ds ++ nine) k).getD k 0).toNat) = old at cg
        clear hs1 hst hget hfl
        go_wp2
        go_roundw
        case rel => exact ⟨k + 1, by omega, by go_num, HF.out⟩
        case measure => simp [intOf]; omega
    · have hq1 : ¬ ((k : Int) < (n : Int) + 9) := by omega
      have hk9 : k = (ds ++ nine).length := by omega
      have HF : Hid (Room wr g ds ∧ Kept [] w wr) := ⟨by have := HK.out.1; rw [hk9, fillTo_full] at this; exact this, HK.out.2⟩
      clear HK hk9 hL
      go_wp2
      go_ret2
      exact ⟨g, rfl, HG.out, HF.out.1, HF.out.2⟩

end Go.Proofs.Ytcgkjdchkpnldab
