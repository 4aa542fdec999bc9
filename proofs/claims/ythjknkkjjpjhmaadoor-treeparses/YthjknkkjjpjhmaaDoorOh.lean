/-
  Contracts: freightlaw7.roomy, stands.
-/
import Derived.Test.YthjknkkjjpjhmaaDoorOe
namespace Go.Proofs.YthjknkkjjpjhmaaDoor
open Go.RowKit
set_option linter.unusedVariables false
set_option linter.unusedSimpArgs false

/-- The mark behind the end of bytes. -/
def bm (i : Nat) : UInt8 := UInt8.ofNat (99 + i)
def bms : List UInt8 := (List.range 40).map bm
theorem bm_nat {i : Nat} (h : i < 40) : (bm i).toNat = 99 + i := by
  simp [bm, UInt8.toNat_ofNat', Nat.mod_eq_of_lt (show 99 + i < 256 by omega)]
theorem bm_wrap {i : Nat} (h : i < 40) : IntKind.u8.wrap (99 + (i : Int)) = ((bm i).toNat : Int) := by
  rw [bm_nat h, IntKind.wrap_u8]; omega
theorem bms_len : bms.length = 40 := by simp [bms]
theorem bms_take (k : Nat) (h : k < 40) : bms.take (k + 1) = bms.take k ++ [bm k] := by
  rw [List.take_succ_eq_append_getElem (by rw [bms_len]; exact h)]
  simp [bms]
theorem Tryd.cutBy (W : World) (ao : Option Addr) (L cap m : Nat) (hm : m ≤ cap) :
    (Instr.slice 26 (.slice ao L cap) none (some (.int .i64 m)) none).run Tryd.prog W = .ok (.slice ao m cap) W := by
  have hz : (sizeOf (Tryd.prog.elem 26)).run Tryd.prog W = .ok 1 W := by kernel_rfl
  have h := run_slice_h (P := Tryd.prog) W 26 ao L cap (by kernel_rfl) .i64 m (by omega) (by omega)
  rw [h, hz]
  cases ao <;> simp [sliced, Addr.add]
/-- Bytes with the marks behind their end. -/
structure Cy (w : World) (g n cap : Nat) (xs : List UInt8) : Prop where
  sl : Sl w (some ⟨g, 0, none⟩) xs
  mks : ∀ i, i < 40 → w.cell? ⟨g, n + i, none⟩ = some (.int .u8 (bm i).toNat)
  len : xs.length = n
  cap : n + 40 ≤ cap
theorem Cy.kept {l : List Nat} {w w' : World} {g n cap : Nat} {xs : List UInt8} (h : Cy w g n cap xs) (hk : Kept l w w') (hn : g ∉ l) : Cy w' g n cap xs :=
  ⟨h.sl.kept hk (fun _ a ha => by cases ha; exact hn), fun i hi => hk.cellOf (h.mks i hi) hn, h.len, h.cap⟩
theorem cy_of {w : World} {base g n cap : Nat} {xs : List UInt8} (h : OwnB w base (.slice (some ⟨g, 0, none⟩) (n + 40) cap) (xs ++ bms)) (hn : xs.length = n) (hc : n + 40 ≤ cap) : Cy w g n cap xs := by
  obtain ⟨ao, cap', hv, _, hS, _⟩ := h.shape
  injection hv with q1 q2 q3
  subst q1
  refine ⟨fun i hi => ?_, fun i hi => ?_, hn, hc⟩
  · obtain ⟨b, off, e, h1⟩ := hS i (by rw [List.length_append]; omega)
    refine ⟨b, off, e, ?_⟩
    rw [h1]
    simp [List.getD, List.getElem?_append_left hi]
  · obtain ⟨b, off, e, h1⟩ := hS (n + i) (by rw [List.length_append, bms_len]; omega)
    cases e
    rw [Nat.zero_add] at h1
    rw [h1]
    have : (xs ++ bms).getD (n + i) 0 = bm i := by
      rw [← hn]
      simp [List.getD, bms, hi]
    rw [this]

set_option maxHeartbeats 3200000 in
set_option maxRecDepth 100000 in
theorem roomy_ok (ao : Option Addr) (n c : Nat) (xs : List UInt8) (w : World) (hn : xs.length = n) (hL : Sl w ao xs) (h0 : ao = none → xs = [] ∧ c = 0) (hm : n ≤ 140737488351232) :
    Calls Tryd.prog 17 #[.slice ao n c] w fun r w' => (∃ g cap, r = .returned (.slice (some ⟨g, 0, none⟩) n cap) ∧ OwnB w' w.heap.size (.slice (some ⟨g, 0, none⟩) (n + 40) cap) (xs ++ bms) ∧ n + 40 ≤ cap) ∧ Kept [] w w' := by
  obtain ⟨i0, hi, hz0, hz1, hz2⟩ := info_parts Tryd.infoByte3
  have hmk := run_make (P := Tryd.prog) w 26 5 i0 (.int .u8 0) Tryd.underlying26 hi hz0 .i64 .i64 0 ((n + 40 : Nat) : Int) (by omega) (by omega) (by rw [hz2]; omega) (by omega)
  rw [hz1] at hmk
  simp only [Int.toNat_zero, Int.toNat_natCast] at hmk
  have ho1 : OwnB (w.alloc (.cells (madeCells (Value.int .u8 0).cells ((n + 40) * 1)) 5)) w.heap.size (.slice (some ⟨w.heap.size, 0, none⟩) 0 (n + 40)) [] :=
    World.ownsRow_made w _ (n + 40) (Nat.le_refl _) (by unfold maxLen; omega) (size_madeCells _ _)
  have hk1 : Kept [] w (w.alloc (.cells (madeCells (Value.int .u8 0).cells ((n + 40) * 1)) 5)) := (Kept.refl [] w).alloc _
  generalize w.alloc (.cells (madeCells (Value.int .u8 0).cells ((n + 40) * 1)) 5) = w1 at hmk ho1 hk1
  rw [show ((n + 40 : Nat) : Int) = (n : Int) + 40 by omega] at hmk
  obtain ⟨v2, w2, hrun2, ho2, hk2⟩ := run_appSl w1 w.heap.size _ [] xs ho1 ao n c hn (hL.kept hk1 (by simp)) h0 (by simp; omega) hk1.size
  rw [List.nil_append] at ho2
  have hk12 : Kept [] w w2 := hk1.trans hk2 (fun g hg hlt => by simp [Value.ownBlock] at hg; omega)
  have H2 : Hid (OwnB w2 w.heap.size v2 xs ∧ Kept [] w w2) := ⟨ho2, hk12⟩
  have HN := hide hn
  clear ho1 hk1 ho2 hk2 hk12 hL hn hi hz0 hz1 hz2
  go_enter Tryd.func17, Tryd.ntmps17
  go_wp2_with (refine wpList_app_run rfl (.tmp 8) (.tmp 9) 26 26 rfl (.slice (some ⟨w.heap.size, 0, none⟩) 0 (n + 40)) (.slice ao n c) rfl rfl v2 w2 hrun2 ?_)
  clear hmk hrun2
  go_loopw [3, 4] (fun x y wr => ∃ k : Nat, k ≤ 40 ∧ y = .int .i64 k ∧ Hid (OwnB wr w.heap.size x (xs ++ bms.take k) ∧ Kept [] w wr)) (fun x y wr => 40 - (intOf y).toNat)
  case atStart => exact ⟨0, Nat.zero_le _, rfl, by show _ ∧ _; simpa using H2.out⟩
  case round =>
    obtain ⟨k, hk, rfl, HK⟩ := hrel
    by_cases hlt : k < 40
    · have HT := hide (bms_take k hlt)
      have hwu := bm_wrap hlt
      have hll : (xs ++ bms.take k).length = n + k := by rw [List.length_append, List.length_take, bms_len, HN.out]; omega
      generalize bm k = x at hwu HT
      have kN : Kept [] wr (wr.alloc (.cells #[.int .u8 x.toNat] 5)) := (Kept.refl [] wr).alloc _
      obtain ⟨v4, w4, hrun4, ho4, hk4⟩ := run_appB (wr.alloc (.cells #[.int .u8 x.toNat] 5)) w.heap.size u3 (xs ++ bms.take k) [x] (HK.out.1.kept kN (by simp)) wr.heap.size 0 1 (fun i hi => by
        have hnew := heap_new wr (.cells #[.int .u8 x.toNat] 5)
        rw [Nat.zero_add, cell_of_row _ _ _ _ _ _ hnew]
        obtain rfl : i = 0 := by simp at hi; omega
        rfl) (by rw [hll]; simp; omega) (Nat.le_trans HK.out.2.size kN.size)
      rw [show [x].length = 1 from rfl] at hrun4
      have H4 : Hid (OwnB w4 w.heap.size v4 (xs ++ bms.take (k + 1)) ∧ Kept [] w w4) := ⟨by rw [HT.out, ← List.append_assoc]; exact ho4, (HK.out.2.trans kN (by simp)).trans hk4 (fun g hg hl2 => by have := (HK.out.1.far g (by simpa using hg)).1; omega)⟩
      clear ho4 hk4 kN HK hll HT
      go_wp2_with (refine wpList_app_run rfl (.tmp 15) (.tmp 19) 26 26 rfl u3 (.slice (some ⟨wr.heap.size, 0, none⟩) 1 1) rfl rfl v4 w4 hrun4 ?_)
      go_roundw
      case rel => exact ⟨k + 1, by omega, by go_num, H4.out⟩
      case measure => simp [intOf]; omega
    · obtain rfl : k = 40 := by omega
      have ho := HK.out.1
      rw [List.take_of_length_le (by rw [bms_len]; omega)] at ho
      have hll : (xs ++ bms).length = n + 40 := by rw [List.length_append, bms_len, HN.out]
      rcases ho.2 with ⟨_, h2⟩ | ⟨g, cap, cur, hv, hb, hg, hnn, hc, hs, hta⟩
      · rw [hll] at h2; omega
      · rw [hll] at hv hnn
        subst hv
        have hcut := fun W => Tryd.cutBy W (some ⟨g, 0, none⟩) (n + 40) cap n (by omega)
        have HC : Hid ((OwnB wr w.heap.size (.slice (some ⟨g, 0, none⟩) (n + 40) cap) (xs ++ bms) ∧ n + 40 ≤ cap) ∧ Kept [] w wr) := ⟨⟨ho, hnn⟩, HK.out.2⟩
        clear ho HK hg hs hta hll
        go_wp2
        go_ret
        exact ⟨⟨g, cap, rfl, HC.out.1⟩, HC.out.2⟩

set_option maxHeartbeats 3200000 in
set_option maxRecDepth 100000 in
theorem stands_ok (g n cap : Nat) (xs : List UInt8) (bo : Option Addr) (bc : Nat) (w : World) (hC : Cy w g n cap xs) (hE : Sl w bo xs) (hm : n ≤ 140737488351232) :
    Calls Tryd.prog 21 #[.slice (some ⟨g, 0, none⟩) n cap, .slice bo n bc] w fun r w' => r = .returned (.bool true) ∧ Kept [] w w' := by
  have HC := hide hC
  have HE := hide hE
  have hcap := hC.cap
  have hcut := fun W => Tryd.cutBy W (some ⟨g, 0, none⟩) n cap (n + 40) hcap
  rw [show ((n + 40 : Nat) : Int) = (n : Int) + 40 by omega] at hcut
  clear hC hE
  go_enter Tryd.func21, Tryd.ntmps21
  go_wp2
  clear hcut
  go_loopw [6] (fun x wr => ∃ k : Nat, k ≤ 40 ∧ x = .int .i64 k ∧ Hid (Kept [] w wr)) (fun x wr => 40 - (intOf x).toNat)
  case atStart => exact ⟨0, Nat.zero_le _, rfl, Kept.refl _ _⟩
  case round =>
    obtain ⟨k, hk, rfl, HK⟩ := hrel
    by_cases hlt : k < 40
    · have hck : wr.cell? ⟨g, n + k, none⟩ = some (.int .u8 (bm k).toNat) := HK.out.cellOf (HC.out.mks k hlt) (by simp)
      have hwu := bm_wrap hlt
      have hb8 := UInt8.toNat_lt (bm k)
      generalize (bm k).toNat = x at hck hwu hb8
      have hxx : ((x : Int) != (x : Int)) = false := by simp
      go_wp2
      go_roundw
      case rel => exact ⟨k + 1, by omega, by go_num, HK.out⟩
      case measure => simp [intOf]; omega
    · have hal := same_any (some ⟨g, 0, none⟩) bo n cap n bc xs xs wr HC.out.len HC.out.len (by omega) (HC.out.sl.kept HK.out (by simp)) (HE.out.kept HK.out (by simp))
      rw [decide_eq_true (rfl : xs = xs)] at hal
      go_wp2_with (go_at_call 15; refine hal.mono ?_; rintro r v2 ⟨rfl, m2, rfl⟩; have HK2 := hide (HK.out.drewN m2); clear hal)
      go_ret
      exact ⟨rfl, HK2.out⟩
end Go.Proofs.YthjknkkjjpjhmaaDoor
