import Derived.Test.YtmklodligplbaabE1p
import Derived.WalkKit
import Derived.Deep.RegionHeld3
namespace Go.Proofs.Ytmklodligplbaab
section
open Go.RowKit
set_option linter.unusedVariables false
set_option linter.unusedSimpArgs false

/-- The window of that size at k. -/
def wat (data : List UInt8) (size k : Nat) : List UInt8 := (data.drop k).take size

theorem wat_length (data : List UInt8) (size k : Nat) (h : k + size ≤ data.length) : (wat data size k).length = size := by simp [wat]; omega
theorem wat_head (data : List UInt8) (size k : Nat) (hs : 0 < size) (h : k + size ≤ data.length) : wat data size k = data.getD k 0 :: (data.drop (k + 1)).take (size - 1) := by
  unfold wat
  obtain ⟨m, rfl⟩ : ∃ m, size = m + 1 := ⟨size - 1, by omega⟩
  rw [List.drop_eq_getElem_cons (by omega), List.take_succ_cons]
  simp [List.getElem?_eq_getElem (show k < data.length by omega)]
theorem wat_next (data : List UInt8) (size k : Nat) (hs : 0 < size) (h : k + size < data.length) : wat data size (k + 1) = (data.drop (k + 1)).take (size - 1) ++ [data.getD (k + size) 0] := by
  unfold wat
  have e : size = size - 1 + 1 := by omega
  rw [show List.take size (data.drop (k + 1)) = List.take (size - 1 + 1) (data.drop (k + 1)) by rw [← e], List.take_succ_eq_append_getElem (by simp; omega)]
  congr 2
  simp only [List.getElem_drop, List.getD_eq_getElem?_getD]
  rw [List.getElem?_eq_getElem (show k + size < data.length by omega), Option.getD_some]
  congr 1
  omega

/-- What an iterator has: the copy of data, the size. -/
structure Wc (w : World) (Kb Sb g cap size : Nat) (data : List UInt8) : Prop where
  k : w.cell? ⟨Kb, 0, none⟩ = some (.slice (some ⟨g, 0, none⟩) data.length cap)
  s : w.cell? ⟨Sb, 0, none⟩ = some (.int .i64 size)
  d : ∀ i, i < data.length → w.cell? ⟨g, i, none⟩ = some (.int .u8 (data.getD i 0).toNat)
  h1 : 1 ≤ size
  h2 : size ≤ data.length
  le : data.length ≤ cap
  max : data.length ≤ 140737488355328

theorem Wc.kept {l : List Nat} {w w' : World} {Kb Sb g cap size : Nat} {data : List UInt8} (h : Wc w Kb Sb g cap size data) (hk : Kept l w w') (h1 : Kb ∉ l) (h2 : Sb ∉ l) (h3 : g ∉ l) : Wc w' Kb Sb g cap size data :=
  ⟨hk.cellOf h.k h1, hk.cellOf h.s h2, fun i hi => hk.cellOf (h.d i hi) h3, h.h1, h.h2, h.le, h.max⟩

/-- At the head of the iterator's loop. -/
structure Wl (wr : World) (P : Nat) (a b : Nat) : Prop where
  row : wr.heap[P]? = some (.cells #[.int .u16 a, .int .u16 b] 132 (0, 0))

theorem Wl.kept {l : List Nat} {w w' : World} {P a b : Nat} (h : Wl w P a b) (hk : Kept l w w') (hp : P ∉ l) : Wl w' P a b :=
  ⟨by rw [hk.block P (Array.getElem?_eq_some_iff.1 h.row).1 hp]; exact h.row⟩

set_option maxHeartbeats 2000000 in
set_option maxRecDepth 100000 in
theorem win2_any (F : Nat) (caps : Array Value) (Kb Sb g cap size : Nat) (data : List UInt8) (w : World) (Inv : Nat → Nat → World → Prop) (Stop : Nat → Nat → World → Prop)
    (eg : ∀ args w, (callFunc F args).run Try.prog w = .ok (.enter F args) w)
    (hc : Wc w Kb Sb g cap size data)
    (h0 : ∀ P w1, w.heap.size ≤ P → P < w1.heap.size → Kept [] w w1 → Inv P 0 w1)
    (hst : ∀ P k w1 w2, w.heap.size ≤ P → Inv P k w1 → Kept [P] w1 w2 → Inv P k w2)
    (hy : ∀ P k w1, w.heap.size ≤ P → P < w1.heap.size → k + size ≤ data.length → Inv P k w1 → Wc w1 Kb Sb g cap size data → Calls Try.prog F (#[.int .i64 k, .int .i64 (Rol.sum (wat data size k))] ++ caps) w1 fun e w2 => ∃ b L, e = .returned (.bool b) ∧ Kept L w1 w2 ∧ P ∉ L ∧ Kb ∉ L ∧ Sb ∉ L ∧ g ∉ L ∧ (b = true → Inv P (k + 1) w2) ∧ (b = false → Stop P k w2)) :
    Calls Try.prog 93 #[.func (.func F) #[] caps, .pointer (some ⟨Kb, 0, none⟩), .pointer (some ⟨Sb, 0, none⟩)] w fun e w' => e = .returned (.tuple #[]) ∧ ((∃ P, w.heap.size ≤ P ∧ Inv P (data.length - size + 1) w') ∨ ∃ P k, w.heap.size ≤ P ∧ k + size ≤ data.length ∧ Stop P k w') := by
  have HC : Hid (Wc w Kb Sb g cap size data) := hc
  have H0 : Hid (∀ P w1, w.heap.size ≤ P → P < w1.heap.size → Kept [] w w1 → Inv P 0 w1) := h0
  have HST : Hid (∀ P k w1 w2, w.heap.size ≤ P → Inv P k w1 → Kept [P] w1 w2 → Inv P k w2) := hst
  have HY : Hid (∀ P k w1, w.heap.size ≤ P → P < w1.heap.size → k + size ≤ data.length → Inv P k w1 → Wc w1 Kb Sb g cap size data → Calls Try.prog F (#[.int .i64 k, .int .i64 (Rol.sum (wat data size k))] ++ caps) w1 fun e w2 => ∃ b L, e = .returned (.bool b) ∧ Kept L w1 w2 ∧ P ∉ L ∧ Kb ∉ L ∧ Sb ∉ L ∧ g ∉ L ∧ (b = true → Inv P (k + 1) w2) ∧ (b = false → Stop P k w2)) := hy
  have ck := hc.k
  have cs := hc.s
  have hs1 := hc.h1
  have hs2 := hc.h2
  have hle := hc.le
  have hmx := hc.max
  have HLT : Hid (Kb < w.heap.size ∧ Sb < w.heap.size ∧ g < w.heap.size) := ⟨World.block_lt_of_cell? _ _ hc.k, World.block_lt_of_cell? _ _ hc.s, World.block_lt_of_cell? _ _ (hc.d 0 (by omega))⟩
  have hzv := Try.zeroParts
  obtain ⟨N, hN⟩ : ∃ N, N = data.length := ⟨_, rfl⟩
  rw [← hN] at ck hs2 hle hmx ⊢
  have HN : Hid (N = data.length) := hN
  have HSL : Hid (Sl w (some ⟨g, 0, none⟩) (data.take size)) := (Sl.of (fun i hi => by rw [Nat.zero_add]; exact hc.d i hi)).take size
  have hcut : ∀ W, (Instr.slice 22 (.slice (some ⟨g, 0, none⟩) N cap) none (some (.int .i64 size)) none).run Try.prog W = .ok (.slice (some ⟨g, 0, none⟩) size cap) W := fun W => Try.cutToE W _ _ _ _ (by omega)
  have hw0 : data.take size = wat data size 0 := by simp [wat]
  clear hc h0 hst hy hN
  go_enter Try.func93, Try.ntmps93
  go_wp2_with (go_at_call 67; refine (partsOf_n _ size cap (data.take size) _ (by have := HN.out; simp; omega) (by omega) HSL.out).mono ?_; rintro e w1 ⟨rfl, hk1⟩)
  have HW : Hid (Wl (w1.alloc (.cells #[.int .u16 (Rol.pa (wat data size 0)), .int .u16 (Rol.pb (wat data size 0))] 132)) w1.heap.size (Rol.pa (wat data size 0)) (Rol.pb (wat data size 0))) := ⟨heap_alloc_new _ _⟩
  have HC1 : Hid (Wc (w1.alloc (.cells #[.int .u16 (Rol.pa (wat data size 0)), .int .u16 (Rol.pb (wat data size 0))] 132)) Kb Sb g cap size data) := HC.out.kept (hk1.alloc _) (by simp) (by simp) (by simp)
  have HI : Hid (Inv w1.heap.size 0 (w1.alloc (.cells #[.int .u16 (Rol.pa (wat data size 0)), .int .u16 (Rol.pb (wat data size 0))] 132))) := H0.out _ _ hk1.size (by simp) (hk1.alloc _)
  have hPw := hk1.size
  clear hw0 hcut HSL ck cs HC H0 hk1 hzv
  generalize w1.alloc _ = w2 at HW HC1 HI ⊢
  generalize w1.heap.size = P at HW HI hPw ⊢
  clear w1
  go_loopw [5] (fun i wr => ∃ k : Nat, k + size ≤ N ∧ i = .int .i64 k ∧ Hid (Wl wr P (Rol.pa (wat data size k)) (Rol.pb (wat data size k))) ∧ Hid (Wc wr Kb Sb g cap size data) ∧ Hid (Inv P k wr)) (fun i wr => N - (intOf i).toNat)
  case atStart => exact ⟨0, by omega, rfl, HW, HC1, HI⟩
  case round =>
    clear HW HC1 HI
    obtain ⟨k, hk, rfl, HW, HC, HI⟩ := hrel
    have ha := Rol.pa_lt (wat data size k)
    have hb := Rol.pb_lt (wat data size k)
    have p0 : wr.cell? ⟨P, 0, none⟩ = some (.int .u16 (Rol.pa (wat data size k))) := by rw [cell_of_row _ _ _ _ _ _ HW.out.row]; rfl
    have p1 : wr.cell? ⟨P, 1, none⟩ = some (.int .u16 (Rol.pb (wat data size k))) := by rw [cell_of_row _ _ _ _ _ _ HW.out.row]; rfl
    have hPl : P < wr.heap.size := World.block_lt_of_cell? _ _ p0
    have HPS : Hid (∀ w, Calls Try.prog 68 #[pv (Rol.pa (wat data size k)) (Rol.pb (wat data size k))] w fun e w' => e = .returned (.int .i64 (Rol.sum (wat data size k))) ∧ Kept [] w w') := fun w => psum_any _ _ w ha hb
    go_wp2_with (go_at_call 68; refine (HPS.out _).mono ?_; rintro e w3 ⟨rfl, hk3⟩)
    have HI3 : Hid (Inv P k w3) := HST.out P k wr w3 hPw HI.out (hk3.mono (by simp))
    have HC3 : Hid (Wc w3 Kb Sb g cap size data) := HC.out.kept hk3 (by simp) (by simp) (by simp)
    have HW3 : Hid (Wl w3 P (Rol.pa (wat data size k)) (Rol.pb (wat data size k))) := HW.out.kept hk3 (by simp)
    have hPl3 : P < w3.heap.size := Nat.lt_of_lt_of_le hPl hk3.size
    clear HI HC HW p0 p1 hPl hk3 HPS
    refine (HY.out P k w3 hPw hPl3 (by have := HN.out; omega) HI3.out HC3.out).mono ?_
    rintro e w4 ⟨b, L, rfl, hk4, hp4, hkb, hsb, hg4, hT, hF⟩
    cases b with
    | false =>
      have HF : Hid (Stop P k w4) := hF rfl
      clear hT hF hk4 hp4 hkb hsb hg4 HI3 HC3 HW3 HY HST
      go_wp2
      exact bodyPost_end (results_none rfl _ _ _) rfl ⟨rfl, .inr ⟨P, k, hPw, hk, HF.out⟩⟩
    | true =>
      have HT : Hid (Inv P (k + 1) w4) := hT rfl
      have HC4 : Hid (Wc w4 Kb Sb g cap size data) := HC3.out.kept hk4 hkb hsb hg4
      have HW4 : Hid (Wl w4 P (Rol.pa (wat data size k)) (Rol.pb (wat data size k))) := HW3.out.kept hk4 hp4
      have ck := HC4.out.k
      have cs := HC4.out.s
      rw [← HN.out] at ck
      clear hT hF hk4 hp4 hkb hsb hg4 HI3 HC3 HW3 HY
      by_cases hend : k + size = N
      · have g1 : ((k : Int) + (size : Int) == (N : Int)) = true := by simp; omega
        have HT2 : Hid (Inv P (N - size + 1) w4) := by
          have e : N - size + 1 = k + 1 := by omega
          rw [e]; exact HT
        clear HT HC4 HW4 HST
        go_wp2
        exact bodyPost_ret (results_none rfl _ _ _) rfl ⟨rfl, .inl ⟨P, hPw, HT2.out⟩⟩
      · have g1 : ((k : Int) + (size : Int) == (N : Int)) = false := by simp; omega
        have hlt : k + size < N := by omega
        have p0 : w4.cell? ⟨P, 0, none⟩ = some (.int .u16 (Rol.pa (wat data size k))) := by rw [cell_of_row _ _ _ _ _ _ HW4.out.row]; rfl
        have p1 : w4.cell? ⟨P, 1, none⟩ = some (.int .u16 (Rol.pb (wat data size k))) := by rw [cell_of_row _ _ _ _ _ _ HW4.out.row]; rfl
        have d0 := HC4.out.d k (by have := HN.out; omega)
        have d1 := HC4.out.d (k + size) (by have := HN.out; omega)
        have hx : (data.getD k 0).toNat < 256 := UInt8.toNat_lt _
        have hy : (data.getD (k + size) 0).toNat < 256 := UInt8.toNat_lt _
        have ea : mva (Rol.pa (wat data size k)) (data.getD k 0).toNat (data.getD (k + size) 0).toNat = Rol.pa (wat data size (k + 1)) := by
          have := HN.out
          rw [wat_head data size k (by omega) (by omega), wat_next data size k (by omega) (by omega)]; exact mva_move _ _ _
        have eb : mvb (Rol.pa (wat data size k)) (Rol.pb (wat data size k)) (data.getD k 0).toNat (data.getD (k + size) 0).toNat size = Rol.pb (wat data size (k + 1)) := by
          have := HN.out
          rw [wat_head data size k (by omega) (by omega), wat_next data size k (by omega) (by omega)]; exact mvb_move _ _ _ _ (by simp; omega)
        have hmv := fun w => moved_any (Rol.pa (wat data size k)) (Rol.pb (wat data size k)) (data.getD k 0).toNat (data.getD (k + size) 0).toNat size w ha hb hx hy (by omega)
        rw [ea, eb] at hmv
        have HMV : Hid (∀ w, Calls Try.prog 94 #[pv (Rol.pa (wat data size k)) (Rol.pb (wat data size k)), .int .u8 (data.getD k 0).toNat, .int .u8 (data.getD (k + size) 0).toNat, .int .i64 size] w fun e w' => e = .returned (pv (Rol.pa (wat data size (k + 1))) (Rol.pb (wat data size (k + 1)))) ∧ Kept [] w w') := hmv
        clear hmv ea eb
        have l1 := Rol.pa_lt (wat data size (k + 1))
        have l2 := Rol.pb_lt (wat data size (k + 1))
        generalize Rol.pa (wat data size k) = a at HMV p0 ha HW4
        generalize Rol.pb (wat data size k) = b at HMV p1 hb HW4
        generalize (data.getD k 0).toNat = x at HMV d0 hx
        generalize (data.getD (k + size) 0).toNat = y at HMV d1 hy
        have HMV3 := HMV.out
        clear HMV
        go_wp2
        obtain ⟨m, hm⟩ : ∃ m, m = k + size := ⟨_, rfl⟩
        rw [← hm] at d1 hlt
        have a3 : IntKind.i64.wrap ((k : Int) + (size : Int)) = (m : Int) := by rw [hm]; simp [IntKind.wrap, IntKind.bits, IntKind.signed]; omega
        have hkN : k < N := by omega
        have HM : Hid (m = k + size) := hm
        clear hm
        go_still_tail 12, Try.followsE
        rw [World.drew_eq]
        have hk5' : Kept [] w4 w4.drew := (Kept.refl [] w4).drew
        go_wp2_with (go_at_call 94; refine (HMV3 _).mono ?_; rintro e w5 ⟨rfl, hk5⟩; have HW5 : Hid (Wl w5 P a b) := HW4.out.kept (hk5'.trans hk5 (by simp)) (by simp); have q0 : w5.cell? ⟨P, 0, none⟩ = some (.int .u16 a) := (by rw [cell_of_row _ _ _ _ _ _ HW5.out.row]; rfl); have q1 : w5.cell? ⟨P, 1, none⟩ = some (.int .u16 b) := (by rw [cell_of_row _ _ _ _ _ _ HW5.out.row]; rfl); have f0 : w5.frozen? ⟨P, 0, none⟩ = false := frozen_of_row _ _ _ _ _ HW5.out.row; have f1 : w5.frozen? ⟨P, 1, none⟩ = false := frozen_of_row _ _ _ _ _ HW5.out.row)
        have hk6 : Kept [P] w4 ((w5.setCell ⟨P, 0, none⟩ (.int .u16 (Rol.pa (wat data size (k + 1)) : Nat))).setCell ⟨P, 1, none⟩ (.int .u16 (Rol.pb (wat data size (k + 1)) : Nat))) := ((((Kept.refl [P] w4).drew.trans hk5 (by simp)).setCell (by simp) _).setCell (by simp) _)
        have HW6 : Hid (Wl ((w5.setCell ⟨P, 0, none⟩ (.int .u16 (Rol.pa (wat data size (k + 1)) : Nat))).setCell ⟨P, 1, none⟩ (.int .u16 (Rol.pb (wat data size (k + 1)) : Nat))) P (Rol.pa (wat data size (k + 1))) (Rol.pb (wat data size (k + 1)))) := by
          have r1 := heap_setCell_same w5 P 0 _ _ (.int .u16 (Rol.pa (wat data size (k + 1)) : Nat)) HW5.out.row
          refine ⟨?_⟩
          rw [heap_setCell_same _ _ _ _ _ _ r1]
          rfl
        have hl := HLT.out
        have HC6 := HC4.out.kept hk6 (by simp; omega) (by simp; omega) (by simp; omega)
        have HI6 := HST.out P (k + 1) _ _ hPw HT.out hk6
        clear HC4 HT HW4 HW5
        go_roundw
        case rel => exact ⟨k + 1, by have := HM.out; omega, by go_num, HW6, HC6, HI6⟩
        case measure => simp [intOf]; omega

set_option maxHeartbeats 400000 in
theorem win1_any (y : Value) (w : World) :
    Calls Try.prog 91 #[y] w fun e w' => e = .returned (.tuple #[]) ∧ w' = w := by
  go_enter Try.func91, Try.ntmps91
  go_wp2
  first | exact bodyPost_end (results_none rfl _ _ _) rfl ⟨rfl, rfl⟩ | exact bodyPost_ret (results_none rfl _ _ _) rfl ⟨rfl, rfl⟩

set_option maxHeartbeats 1000000 in
set_option maxRecDepth 100000 in
theorem windows_bad (ao : Option Addr) (n cap : Nat) (size : Int) (w : World) (hs : size < 1 ∨ (n : Int) < size) :
    Calls Try.prog 69 #[.slice ao n cap, .int .i64 size] w fun e w' => e = .returned (.func (.func 91) #[] #[]) ∧ Kept [] w w' := by
  have HK : Hid (Kept [] w (w.alloc (.cells #[.int .i64 size] 3))) := (Kept.refl _ _).alloc _
  by_cases h1 : size < 1
  · clear hs
    go_enter Try.func69, Try.ntmps69
    go_wp2
    go_ret
    exact ⟨rfl, HK.out⟩
  · have h2 : (n : Int) < size := by omega
    clear hs
    go_enter Try.func69, Try.ntmps69
    go_wp2
    go_ret
    exact ⟨rfl, HK.out⟩

set_option maxHeartbeats 1000000 in
set_option maxRecDepth 100000 in
theorem windows_ok (ao : Option Addr) (n cap size : Nat) (data : List UInt8) (w : World) (hx : data.length = n) (hm : n ≤ 140737488355328) (h : Sl w ao data) (h1 : 1 ≤ size) (h2 : size ≤ n) :
    Calls Try.prog 69 #[.slice ao n cap, .int .i64 size] w fun e w' => ∃ Kb Sb g cap', e = .returned (.func (.func 93) #[] #[.pointer (some ⟨Kb, 0, none⟩), .pointer (some ⟨Sb, 0, none⟩)]) ∧ Wc w' Kb Sb g cap' size data ∧ w.heap.size ≤ Kb ∧ w.heap.size ≤ Sb ∧ w.heap.size ≤ g ∧ Kept [] w w' := by
  have HX : Hid (data.length = n) := hx
  have HS : Hid (Sl (w.alloc (.cells #[.int .i64 size] 3)) ao data) := h.kept ((Kept.refl [] w).alloc _) (by simp)
  have hnn : ao = none → data = [] ∧ cap = 0 := fun e => by
    obtain ⟨b, off, e', _⟩ := h 0 (by omega)
    rw [e] at e'; cases e'
  clear hx h
  go_enter Try.func69, Try.ntmps69
  go_wp2_with (go_at_call 92; refine (clone_ownE ao n cap data _ HX.out (by rw [HX.out]; omega) HS.out hnn).mono ?_; rintro e w1 ⟨ao1, cap1, rfl, how1, hk1⟩; have HW1 : Hid (w1.ownsRow (w.alloc (.cells #[.int .i64 size] 3)).heap.size 5 1 (.slice ao1 n cap1) n (bys data)) := how1; clear how1)
  go_ret
  have hne : (Value.slice ao1 n cap1) ≠ .slice none 0 0 := by intro e; cases e; omega
  obtain ⟨g, cp, e1, hg1, hg2, hg3, hc, hfz⟩ := own_open HW1.out hne
  cases e1
  have hka : Kept [] w (w.alloc (.cells #[.int .i64 size] 3)) := (Kept.refl _ _).alloc _
  have hk2 : Kept [] w1 (w1.alloc (.cells #[.slice (some ⟨g, 0, none⟩) n cap1] 22)) := (Kept.refl _ _).alloc _
  have hsz := hka.size
  have hs2 := hk1.size
  refine ⟨w1.heap.size, w.heap.size, g, cap1, rfl, ?_, by omega, Nat.le_refl _, by omega, (hka.trans hk1 (by simp)).trans hk2 (by simp)⟩
  refine ⟨by rw [HX.out]; simp, ?_, fun i hi => hk2.cellOf (hc i hi) (by simp), h1, by rw [HX.out]; exact h2, by rw [HX.out]; exact hg3, by rw [HX.out]; exact hm⟩
  refine hk2.cellOf (hk1.cellOf ?_ (by simp)) (by simp)
  simp
end

section
open Go.RowKit
set_option linter.unusedVariables false

theorem hide {p : Prop} (h : p) : Hid p := h

section
variable {P : Program} {ops : Array Oper} {Q : Exit → Act → World → Prop} {md : Region.Mode} {S : World → Prop} {late : Nat → Bool}

/-- Whatever order is picked; S stands on behind each operation that is not late. -/
def wpAnyL (P : Program) (md : Region.Mode) (ops : Array Oper) (Q : Exit → Act → World → Prop) (S : World → Prop) (late : Nat → Bool) : Nat → Array Bool → Act → World → Prop
  | 0, listed, a, w => Region.ready md ops listed = [] ∧ Q .normal a w
  | fuel + 1, listed, a, w => (Region.ready md ops listed = [] → Q .normal a w) ∧
    ∀ i ∈ Region.ready md ops listed, wpOp P ops Q i (fun a' w' => (S w → late i = false → S w') ∧ wpAnyL P md ops Q S late fuel (listed.setIfInBounds i true) a' w') a w

theorem wpAnyL_any : ∀ (fuel : Nat) (listed : Array Bool) (a : Act) (w : World), wpAnyL P md ops Q S late fuel listed a w → wpAny P md ops Q fuel listed a w
  | 0, _, _, _, h => h
  | fuel + 1, _, _, _, h => ⟨h.1, fun i hi => wpOp_mono (fun a' w' k => wpAnyL_any fuel _ a' w' k.2) (h.2 i hi)⟩

/-- What has come up came up behind all that it waits for. -/
def downB (md : Region.Mode) (ops : Array Oper) (listed : Array Bool) : Bool :=
  (List.range ops.size).all fun k => !(listed.getD k false) || match ops[k]? with
    | some o => o.after.all fun e => !(Region.binds md e) || listed.getD e.on false
    | none => true
/-- z waits for i, or for one that does. -/
def waits (md : Region.Mode) (ops : Array Oper) (i : Nat) : Nat → Nat → Bool
  | 0, _ => false
  | n + 1, z => match ops[z]? with
    | some o => o.after.any fun e => Region.binds md e && (e.on == i || waits md ops i n e.on)
    | none => false
def lateWait (md : Region.Mode) (ops : Array Oper) (late : Nat → Bool) (i : Nat) : Bool :=
  (List.range ops.size).all fun z => !(late z) || waits md ops i ops.size z

def Down (md : Region.Mode) (ops : Array Oper) (listed : Array Bool) : Prop :=
  ∀ k o, ops[k]? = some o → listed.getD k false = true → ∀ e ∈ o.after, Region.binds md e = true → listed.getD e.on false = true

theorem downB_spec {listed : Array Bool} (h : downB md ops listed = true) : Down md ops listed := by
  intro k o ho hk e he hb
  have h1 := List.all_eq_true.1 h k (List.mem_range.2 (Array.getElem?_eq_some_iff.1 ho).1)
  simp only [hk, ho, Bool.not_true, Bool.false_or] at h1
  have h2 := Array.all_eq_true_iff_forall_mem.1 h1 e he
  simpa [hb] using h2
theorem Down.set {listed : Array Bool} (h : Down md ops listed) {j : Nat} (hj : j ∈ Region.ready md ops listed) : Down md ops (listed.setIfInBounds j true) := by
  intro k o ho hk e he hb
  apply getD_set_true
  by_cases hjk : j = k
  · subst hjk
    obtain ⟨_, o', ho', hall⟩ := mem_ready.1 hj
    rw [ho] at ho'
    cases ho'
    exact hall e he hb
  · rw [getD_set_ne false hjk] at hk
    exact h k o ho hk e he hb
theorem waits_listed {listed : Array Bool} (hd : Down md ops listed) {i : Nat} : ∀ (n z : Nat) (o : Oper), ops[z]? = some o → waits md ops i n z = true → (∀ e ∈ o.after, Region.binds md e = true → listed.getD e.on false = true) → listed.getD i false = true
  | 0, z, o, ho, h, _ => by simp [waits] at h
  | n + 1, z, o, ho, h, hall => by
    simp only [waits, ho] at h
    obtain ⟨e, he, hb⟩ := Array.any_eq_true'.1 h
    simp only [Bool.and_eq_true, Bool.or_eq_true, beq_iff_eq] at hb
    have hl := hall e he hb.1
    rcases hb.2 with rfl | hw
    · exact hl
    · cases ho' : ops[e.on]? with
      | none => cases n <;> simp [waits, ho'] at hw
      | some o' => exact waits_listed hd n e.on o' ho' hw (hd e.on o' ho' hl)
theorem late_not_ready {listed : Array Bool} (hd : Down md ops listed) {i : Nat} (hi : listed.getD i true = false) (hw : lateWait md ops late i = true) {j : Nat} (hj : j ∈ Region.ready md ops listed) : late j = false := by
  obtain ⟨_, o, ho, hall⟩ := mem_ready.1 hj
  have h1 := List.all_eq_true.1 hw j (List.mem_range.2 (Array.getElem?_eq_some_iff.1 ho).1)
  cases hl : late j with
  | false => rfl
  | true =>
    rw [hl] at h1
    simp only [Bool.not_true, Bool.false_or] at h1
    have h2 := waits_listed hd _ j o ho h1 hall
    rcases Nat.lt_or_ge i listed.size with h' | h'
    · simp [h'] at hi h2; rw [hi] at h2; cases h2
    · simp [Array.getElem?_eq_none h'] at h2

theorem takeL {i : Nat} {oi : Oper} {v : Value} (hi : ops[i]? = some oi) (hsel : Region.noSelect ops = true) (hw : lateWait md ops late i = true)
    (hQ : ∀ c a w, Q (.panic c) (a.put oi.dst v) w → Q (.panic c) a w) :
    ∀ (fuel : Nat) (listed : Array Bool) (a : Act) (w : World), Down md ops listed →
      (∀ j oj, ops[j]? = some oj → j ≠ i → listed.getD j true = false → (∀ e ∈ oj.after, Region.binds md e = true → e.on ≠ i) → oi.apart ops oj = true) →
      i ∈ Region.ready md ops listed → YieldsIf P ops S oi v a → S w →
      wpAnyL P md ops Q S late fuel (listed.setIfInBounds i true) (a.put oi.dst v) w → wpAnyL P md ops Q S late (fuel + 1) listed a w
  | fuel, listed, a, w, hd, hfree, hr, hy, hS, H => by
    refine ⟨fun h => (by rw [h] at hr; cases hr), fun j hj => ?_⟩
    have hiun := (mem_ready.1 hr).1
    by_cases hji : j = i
    · subst hji; exact hy.wpOp hi hS ⟨fun h _ => h, H⟩
    · have hjr := ready_mono (i := i) hj hji
      match fuel, H with
      | 0, H => rw [H.1] at hjr; cases hjr
      | fuel + 1, H =>
        have hlj := late_not_ready hd hiun hw hj
        obtain ⟨hjun, oj, hoj, hall⟩ := mem_ready.1 hj
        have hnot : ∀ e ∈ oj.after, Region.binds md e = true → e.on ≠ i := by
          rintro e he hb rfl
          have h1 := hall e he hb
          rcases Nat.lt_or_ge e.on listed.size with h' | h'
          · simp [h'] at hiun h1; rw [hiun] at h1; cases h1
          · simp [Array.getElem?_eq_none h'] at h1
        have h2 := wpOp_putIf hoj (hfree j oj hoj hji hjun hnot) (fun cs b => Region.noSelect_spec hsel i oi cs b hi) (fun cs b => Region.noSelect_spec hsel j oj cs b hoj) hQ hy (H.2 j hjr)
        refine wpOp_mono (fun a' w' h3 => ⟨fun _ _ => h3.2.1 hS hlj, ?_⟩) h2
        refine takeL hi hsel hw hQ fuel (listed.setIfInBounds j true) a' w' (hd.set hj) (fun k ok hk hki hun hno => hfree k ok hk hki ?_ hno) (ready_mono hr (Ne.symm hji)) h3.1 (h3.2.1 hS hlj) ?_
        · by_cases hjk : j = k
          · subst hjk; exact hjun
          · rw [getD_set_ne true hjk] at hun; exact hun
        · rw [Array.setIfInBounds_comm _ _ hji]
          exact h3.2.2

/-- One that yields in whatever world. -/
theorem takeF {i : Nat} {oi : Oper} {v : Value} (hi : ops[i]? = some oi) (hsel : Region.noSelect ops = true)
    (hQ : ∀ c a w, Q (.panic c) (a.put oi.dst v) w → Q (.panic c) a w) :
    ∀ (fuel : Nat) (listed : Array Bool) (a : Act) (w : World),
      (∀ j oj, ops[j]? = some oj → j ≠ i → listed.getD j true = false → (∀ e ∈ oj.after, Region.binds md e = true → e.on ≠ i) → oi.apart ops oj = true) →
      i ∈ Region.ready md ops listed → YieldsIf P ops (fun _ => True) oi v a →
      wpAnyL P md ops Q S late fuel (listed.setIfInBounds i true) (a.put oi.dst v) w → wpAnyL P md ops Q S late (fuel + 1) listed a w
  | fuel, listed, a, w, hfree, hr, hy, H => by
    refine ⟨fun h => (by rw [h] at hr; cases hr), fun j hj => ?_⟩
    have hiun := (mem_ready.1 hr).1
    by_cases hji : j = i
    · subst hji; exact hy.wpOp hi trivial ⟨fun h _ => h, H⟩
    · have hjr := ready_mono (i := i) hj hji
      match fuel, H with
      | 0, H => rw [H.1] at hjr; cases hjr
      | fuel + 1, H =>
        obtain ⟨hjun, oj, hoj, hall⟩ := mem_ready.1 hj
        have hnot : ∀ e ∈ oj.after, Region.binds md e = true → e.on ≠ i := by
          rintro e he hb rfl
          have h1 := hall e he hb
          rcases Nat.lt_or_ge e.on listed.size with h' | h'
          · simp [h'] at hiun h1; rw [hiun] at h1; cases h1
          · simp [Array.getElem?_eq_none h'] at h1
        have h2 := wpOp_putIf hoj (hfree j oj hoj hji hjun hnot) (fun cs b => Region.noSelect_spec hsel i oi cs b hi) (fun cs b => Region.noSelect_spec hsel j oj cs b hoj) hQ hy (H.2 j hjr)
        refine wpOp_mono (fun a' w' h3 => ⟨h3.2.1, ?_⟩) h2
        refine takeF hi hsel hQ fuel (listed.setIfInBounds j true) a' w' (fun k ok hk hki hun hno => hfree k ok hk hki ?_ hno) (ready_mono hr (Ne.symm hji)) h3.1 ?_
        · by_cases hjk : j = k
          · subst hjk; exact hjun
          · rw [getD_set_ne true hjk] at hun; exact hun
        · rw [Array.setIfInBounds_comm _ _ hji]
          exact h3.2.2
theorem wpAnyL_free {i : Nat} {oi : Oper} {v : Value} {fuel : Nat} {listed : Array Bool} {a : Act} {w : World} (hi : ops[i]? = some oi)
    (hs : Region.noSelect ops = true) (hf : Region.free md ops listed i = true) (hr : (Region.ready md ops listed).contains i = true)
    (hQ : ∀ c a w, Q (.panic c) (a.put oi.dst v) w → Q (.panic c) a w) (hy : YieldsIf P ops (fun _ => True) oi v a)
    (h : wpAnyL P md ops Q S late fuel (listed.setIfInBounds i true) (a.put oi.dst v) w) : wpAnyL P md ops Q S late (fuel + 1) listed a w :=
  takeF hi hs hQ fuel listed a w (Region.free_spec hi hf) (by simpa using hr) hy h

/-- One that reads is taken first, though what it reads is written later. -/
theorem wpAnyL_take {i : Nat} {oi : Oper} {v : Value} {fuel : Nat} {listed : Array Bool} {a : Act} {w : World} (hi : ops[i]? = some oi)
    (hs : Region.noSelect ops = true) (hf : Region.free md ops listed i = true) (hr : (Region.ready md ops listed).contains i = true) (hd : downB md ops listed = true) (hw : lateWait md ops late i = true)
    (hQ : ∀ c a w, Q (.panic c) (a.put oi.dst v) w → Q (.panic c) a w) (hy : YieldsIf P ops S oi v a) (hS : S w)
    (h : wpAnyL P md ops Q S late fuel (listed.setIfInBounds i true) (a.put oi.dst v) w) : wpAnyL P md ops Q S late (fuel + 1) listed a w :=
  takeL hi hs hw hQ fuel listed a w (downB_spec hd) (Region.free_spec hi hf) (by simpa using hr) hy hS h

/-- Just one may come up. -/
theorem wpAnyL_one {i : Nat} {o : Oper} {fuel : Nat} {listed : Array Bool} {a : Act} {w : World} (hr : Region.ready md ops listed = [i]) (ho : ops[i]? = some o)
    (h : ∀ K : Act → World → Prop, Hid (∀ a' w', (S w → late i = false → S w') → wpAnyL P md ops Q S late fuel (listed.setIfInBounds i true) a' w' → K a' w') → if Region.wanted o (yielded ops a.tmps) then o.wp P a w K Q else K (a.put o.dst undef) w) :
    wpAnyL P md ops Q S late (fuel + 1) listed a w := by
  refine ⟨fun h0 => (by rw [hr] at h0; cases h0), fun j hj => ?_⟩
  rw [hr] at hj
  obtain rfl : j = i := by simpa using hj
  have h1 := h (fun a' w' => (S w → late j = false → S w') ∧ wpAnyL P md ops Q S late fuel (listed.setIfInBounds j true) a' w') (fun a' w' x y => ⟨x, y⟩)
  unfold wpOp
  simp only [ho]
  split
  · next hwt => rw [if_pos hwt] at h1; exact .inl h1
  · next hwt => rw [if_neg hwt] at h1; exact h1

/-- One of two may come up. -/
theorem wpAnyL_two {i j : Nat} {o o' : Oper} {fuel : Nat} {listed : Array Bool} {a : Act} {w : World} (hr : Region.ready md ops listed = [i, j]) (ho : ops[i]? = some o) (ho' : ops[j]? = some o')
    (h : ∀ K : Act → World → Prop, Hid (∀ a' w', (S w → late i = false → S w') → wpAnyL P md ops Q S late fuel (listed.setIfInBounds i true) a' w' → K a' w') → if Region.wanted o (yielded ops a.tmps) then o.wp P a w K Q else K (a.put o.dst undef) w)
    (h' : ∀ K : Act → World → Prop, Hid (∀ a' w', (S w → late j = false → S w') → wpAnyL P md ops Q S late fuel (listed.setIfInBounds j true) a' w' → K a' w') → if Region.wanted o' (yielded ops a.tmps) then o'.wp P a w K Q else K (a.put o'.dst undef) w) :
    wpAnyL P md ops Q S late (fuel + 1) listed a w := by
  refine ⟨fun h0 => (by rw [hr] at h0; cases h0), fun k hk => ?_⟩
  rw [hr] at hk
  have key : ∀ (k : Nat) (o : Oper), ops[k]? = some o → (∀ K : Act → World → Prop, Hid (∀ a' w', (S w → late k = false → S w') → wpAnyL P md ops Q S late fuel (listed.setIfInBounds k true) a' w' → K a' w') → if Region.wanted o (yielded ops a.tmps) then o.wp P a w K Q else K (a.put o.dst undef) w) →
      wpOp P ops Q k (fun a' w' => (S w → late k = false → S w') ∧ wpAnyL P md ops Q S late fuel (listed.setIfInBounds k true) a' w') a w := fun k o ho h => by
    have h1 := h (fun a' w' => (S w → late k = false → S w') ∧ wpAnyL P md ops Q S late fuel (listed.setIfInBounds k true) a' w') (fun a' w' x y => ⟨x, y⟩)
    unfold wpOp
    simp only [ho]
    split
    · next hwt => rw [if_pos hwt] at h1; exact .inl h1
    · next hwt => rw [if_neg hwt] at h1; exact h1
  simp only [List.mem_cons, List.not_mem_nil, or_false] at hk
  rcases hk with rfl | rfl
  · exact key _ _ ho h
  · exact key _ _ ho' h'

theorem wpAnyL_done {listed : Array Bool} {a : Act} {w : World} (hr : Region.ready md ops listed = []) (h : Q .normal a w) : ∀ fuel, wpAnyL P md ops Q S late fuel listed a w
  | 0 => ⟨hr, h⟩
  | _ + 1 => ⟨fun _ => h, by rw [hr]; simp⟩

theorem wp_region_late {id : Nat} {a : Act} {w : World} (S : World → Prop) (late : Nat → Bool) (hm : P.follows .mixedOrders = true)
    (h : wpAnyL P .any ops Q S late ops.size (Array.replicate ops.size false) a w.drew) : (Code.region id ops true).wp P Q a w :=
  wp_region_any hm (wpAnyL_any _ _ _ _ h)

end
end

end Go.Proofs.Ytmklodligplbaab
