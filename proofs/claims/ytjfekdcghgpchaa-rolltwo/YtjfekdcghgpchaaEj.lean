/-
  Contracts: roll.Windows and what it answers.
-/
import Derived.Test.YtjfekdcghgpchaaEh
namespace Go.Proofs.Ytjfekdcghgpchaa
open Go.RowKit
set_option linter.unusedVariables false
set_option linter.unusedSimpArgs false

/-- The window of that size at k. -/
def wat (data : List UInt8) (size k : Nat) : List UInt8 := (data.drop k).take size

theorem wat_length (data : List UInt8) (size k : Nat) (h : k + size ≤ data.length) : (wat data size k).length = size := by simp [wat]; omega
theorem wat_head (data : List UInt8) (size k : Nat) (hs : 0 < size) (h : k + size ≤ data.length) : wat data size k = data.getD k 0 :: (data.drop (k + 1)).take (size - 1) := by
  unfold wat
  obtain ⟨m, rfl⟩ : ∃ m, size = m + 1 := ⟨size - 1, by omega⟩
  rw [List.drop_eq_getElem_cons (by omega), List.take_succ_cons]
  simp [List.getElem?_eq_getElem (show k < data.length by omega)]
theorem wat_next (data : List UInt8) (size k : Nat) (hs : 0 < size) (h : k + size < data.length) : wat data size (k + 1) = (data.drop (k + 1)).take (size - 1) ++ [data.getD (k + size) 0] := by
  unfold wat
  have e : size = size - 1 + 1 := by omega
  rw [show List.take size (data.drop (k + 1)) = List.take (size - 1 + 1) (data.drop (k + 1)) by rw [← e], List.take_succ_eq_append_getElem (by simp; omega)]
  congr 2
  simp only [List.getElem_drop, List.getD_eq_getElem?_getD]
  rw [List.getElem?_eq_getElem (show k + size < data.length by omega), Option.getD_some]
  congr 1
  omega

/-- What an iterator has: the copy of data, the size. -/
structure Wc (w : World) (Kb Sb g cap size : Nat) (data : List UInt8) : Prop where
  k : w.cell? ⟨Kb, 0, none⟩ = some (.slice (some ⟨g, 0, none⟩) data.length cap)
  s : w.cell? ⟨Sb, 0, none⟩ = some (.int .i64 size)
  d : ∀ i, i < data.length → w.cell? ⟨g, i, none⟩ = some (.int .u8 (data.getD i 0).toNat)
  h1 : 1 ≤ size
  h2 : size ≤ data.length
  le : data.length ≤ cap
  max : data.length ≤ 140737488355328

theorem Wc.kept {l : List Nat} {w w' : World} {Kb Sb g cap size : Nat} {data : List UInt8} (h : Wc w Kb Sb g cap size data) (hk : Kept l w w') (h1 : Kb ∉ l) (h2 : Sb ∉ l) (h3 : g ∉ l) : Wc w' Kb Sb g cap size data :=
  ⟨hk.cellOf h.k h1, hk.cellOf h.s h2, fun i hi => hk.cellOf (h.d i hi) h3, h.h1, h.h2, h.le, h.max⟩

/-- At the head of the iterator's loop. -/
structure Wl (wr : World) (P : Nat) (a b : Nat) : Prop where
  row : wr.heap[P]? = some (.cells #[.int .u16 a, .int .u16 b] 47 (0, 0))

theorem Wl.kept {l : List Nat} {w w' : World} {P a b : Nat} (h : Wl w P a b) (hk : Kept l w w') (hp : P ∉ l) : Wl w' P a b :=
  ⟨by rw [hk.block P (Array.getElem?_eq_some_iff.1 h.row).1 hp]; exact h.row⟩

set_option maxHeartbeats 2000000 in
set_option maxRecDepth 100000 in
theorem win2_any (F : Nat) (caps : Array Value) (Kb Sb g cap size : Nat) (data : List UInt8) (w : World) (Inv : Nat → Nat → World → Prop) (Stop : Nat → Nat → World → Prop)
    (eg : ∀ args w, (callFunc F args).run Try.prog w = .ok (.enter F args) w)
    (hc : Wc w Kb Sb g cap size data)
    (h0 : ∀ P w1, w.heap.size ≤ P → P < w1.heap.size → Kept [] w w1 → Inv P 0 w1)
    (hst : ∀ P k w1 w2, w.heap.size ≤ P → Inv P k w1 → Kept [P] w1 w2 → Inv P k w2)
    (hy : ∀ P k w1, w.heap.size ≤ P → P < w1.heap.size → k + size ≤ data.length → Inv P k w1 → Wc w1 Kb Sb g cap size data → Calls Try.prog F (#[.int .i64 k, .int .i64 (Rol.sum (wat data size k))] ++ caps) w1 fun e w2 => ∃ b L, e = .returned (.bool b) ∧ Kept L w1 w2 ∧ P ∉ L ∧ Kb ∉ L ∧ Sb ∉ L ∧ g ∉ L ∧ (b = true → Inv P (k + 1) w2) ∧ (b = false → Stop P k w2)) :
    Calls Try.prog 29 #[.func (.func F) #[] caps, .pointer (some ⟨Kb, 0, none⟩), .pointer (some ⟨Sb, 0, none⟩)] w fun e w' => e = .returned (.tuple #[]) ∧ ((∃ P, w.heap.size ≤ P ∧ Inv P (data.length - size + 1) w') ∨ ∃ P k, w.heap.size ≤ P ∧ k + size ≤ data.length ∧ Stop P k w') := by
  have HC : Hid (Wc w Kb Sb g cap size data) := hc
  have H0 : Hid (∀ P w1, w.heap.size ≤ P → P < w1.heap.size → Kept [] w w1 → Inv P 0 w1) := h0
  have HST : Hid (∀ P k w1 w2, w.heap.size ≤ P → Inv P k w1 → Kept [P] w1 w2 → Inv P k w2) := hst
  have HY : Hid (∀ P k w1, w.heap.size ≤ P → P < w1.heap.size → k + size ≤ data.length → Inv P k w1 → Wc w1 Kb Sb g cap size data → Calls Try.prog F (#[.int .i64 k, .int .i64 (Rol.sum (wat data size k))] ++ caps) w1 fun e w2 => ∃ b L, e = .returned (.bool b) ∧ Kept L w1 w2 ∧ P ∉ L ∧ Kb ∉ L ∧ Sb ∉ L ∧ g ∉ L ∧ (b = true → Inv P (k + 1) w2) ∧ (b = false → Stop P k w2)) := hy
  have ck := hc.k
  have cs := hc.s
  have hs1 := hc.h1
  have hs2 := hc.h2
  have hle := hc.le
  have hmx := hc.max
  have HLT : Hid (Kb < w.heap.size ∧ Sb < w.heap.size ∧ g < w.heap.size) := ⟨World.block_lt_of_cell? _ _ hc.k, World.block_lt_of_cell? _ _ hc.s, World.block_lt_of_cell? _ _ (hc.d 0 (by omega))⟩
  have hzv := Try.zeroParts
  obtain ⟨N, hN⟩ : ∃ N, N = data.length := ⟨_, rfl⟩
  rw [← hN] at ck hs2 hle hmx ⊢
  have HN : Hid (N = data.length) := hN
  have HSL : Hid (Sl w (some ⟨g, 0, none⟩) (data.take size)) := (Sl.of (fun i hi => by rw [Nat.zero_add]; exact hc.d i hi)).take size
  have hcut : ∀ W, (Instr.slice 23 (.slice (some ⟨g, 0, none⟩) N cap) none (some (.int .i64 size)) none).run Try.prog W = .ok (.slice (some ⟨g, 0, none⟩) size cap) W := fun W => Try.cutTo W _ _ _ _ (by omega)
  have hw0 : data.take size = wat data size 0 := by simp [wat]
  clear hc h0 hst hy hN
  go_enter Try.func29, Try.ntmps29
  go_wp2_with (go_at_call 21; refine (partsOf_n _ size cap (data.take size) _ (by have := HN.out; simp; omega) (by omega) HSL.out).mono ?_; rintro e w1 ⟨rfl, hk1⟩)
  have HW : Hid (Wl (w1.alloc (.cells #[.int .u16 (Rol.pa (wat data size 0)), .int .u16 (Rol.pb (wat data size 0))] 47)) w1.heap.size (Rol.pa (wat data size 0)) (Rol.pb (wat data size 0))) := ⟨heap_alloc_new _ _⟩
  have HC1 : Hid (Wc (w1.alloc (.cells #[.int .u16 (Rol.pa (wat data size 0)), .int .u16 (Rol.pb (wat data size 0))] 47)) Kb Sb g cap size data) := HC.out.kept (hk1.alloc _) (by simp) (by simp) (by simp)
  have HI : Hid (Inv w1.heap.size 0 (w1.alloc (.cells #[.int .u16 (Rol.pa (wat data size 0)), .int .u16 (Rol.pb (wat data size 0))] 47))) := H0.out _ _ hk1.size (by simp) (hk1.alloc _)
  have hPw := hk1.size
  clear hw0 hcut HSL ck cs HC H0 hk1 hzv
  generalize w1.alloc _ = w2 at HW HC1 HI ⊢
  generalize w1.heap.size = P at HW HI hPw ⊢
  clear w1
  go_loopw [5] (fun i wr => ∃ k : Nat, k + size ≤ N ∧ i = .int .i64 k ∧ Hid (Wl wr P (Rol.pa (wat data size k)) (Rol.pb (wat data size k))) ∧ Hid (Wc wr Kb Sb g cap size data) ∧ Hid (Inv P k wr)) (fun i wr => N - (intOf i).toNat)
  case atStart => exact ⟨0, by omega, rfl, HW, HC1, HI⟩
  case round =>
    clear HW HC1 HI
    obtain ⟨k, hk, rfl, HW, HC, HI⟩ := hrel
    have ha := Rol.pa_lt (wat data size k)
    have hb := Rol.pb_lt (wat data size k)
    have p0 : wr.cell? ⟨P, 0, none⟩ = some (.int .u16 (Rol.pa (wat data size k))) := by rw [cell_of_row _ _ _ _ _ _ HW.out.row]; rfl
    have p1 : wr.cell? ⟨P, 1, none⟩ = some (.int .u16 (Rol.pb (wat data size k))) := by rw [cell_of_row _ _ _ _ _ _ HW.out.row]; rfl
    have hPl : P < wr.heap.size := World.block_lt_of_cell? _ _ p0
    have HPS : Hid (∀ w, Calls Try.prog 22 #[pv (Rol.pa (wat data size k)) (Rol.pb (wat data size k))] w fun e w' => e = .returned (.int .i64 (Rol.sum (wat data size k))) ∧ Kept [] w w') := fun w => psum_any _ _ w ha hb
    go_wp2_with (go_at_call 22; refine (HPS.out _).mono ?_; rintro e w3 ⟨rfl, hk3⟩)
    have HI3 : Hid (Inv P k w3) := HST.out P k wr w3 hPw HI.out (hk3.mono (by simp))
    have HC3 : Hid (Wc w3 Kb Sb g cap size data) := HC.out.kept hk3 (by simp) (by simp) (by simp)
    have HW3 : Hid (Wl w3 P (Rol.pa (wat data size k)) (Rol.pb (wat data size k))) := HW.out.kept hk3 (by simp)
    have hPl3 : P < w3.heap.size := Nat.lt_of_lt_of_le hPl hk3.size
    clear HI HC HW p0 p1 hPl hk3 HPS
    refine (HY.out P k w3 hPw hPl3 (by have := HN.out; omega) HI3.out HC3.out).mono ?_
    rintro e w4 ⟨b, L, rfl, hk4, hp4, hkb, hsb, hg4, hT, hF⟩
    cases b with
    | false =>
      have HF : Hid (Stop P k w4) := hF rfl
      clear hT hF hk4 hp4 hkb hsb hg4 HI3 HC3 HW3 HY HST
      go_wp2
      exact bodyPost_end (results_none rfl _ _ _) rfl ⟨rfl, .inr ⟨P, k, hPw, hk, HF.out⟩⟩
    | true =>
      have HT : Hid (Inv P (k + 1) w4) := hT rfl
      have HC4 : Hid (Wc w4 Kb Sb g cap size data) := HC3.out.kept hk4 hkb hsb hg4
      have HW4 : Hid (Wl w4 P (Rol.pa (wat data size k)) (Rol.pb (wat data size k))) := HW3.out.kept hk4 hp4
      have ck := HC4.out.k
      have cs := HC4.out.s
      rw [← HN.out] at ck
      clear hT hF hk4 hp4 hkb hsb hg4 HI3 HC3 HW3 HY
      by_cases hend : k + size = N
      · have g1 : ((k : Int) + (size : Int) == (N : Int)) = true := by simp; omega
        have HT2 : Hid (Inv P (N - size + 1) w4) := by
          have e : N - size + 1 = k + 1 := by omega
          rw [e]; exact HT
        clear HT HC4 HW4 HST
        go_wp2
        exact bodyPost_ret (results_none rfl _ _ _) rfl ⟨rfl, .inl ⟨P, hPw, HT2.out⟩⟩
      · have g1 : ((k : Int) + (size : Int) == (N : Int)) = false := by simp; omega
        have hlt : k + size < N := by omega
        have p0 : w4.cell? ⟨P, 0, none⟩ = some (.int .u16 (Rol.pa (wat data size k))) := by rw [cell_of_row _ _ _ _ _ _ HW4.out.row]; rfl
        have p1 : w4.cell? ⟨P, 1, none⟩ = some (.int .u16 (Rol.pb (wat data size k))) := by rw [cell_of_row _ _ _ _ _ _ HW4.out.row]; rfl
        have d0 := HC4.out.d k (by have := HN.out; omega)
        have d1 := HC4.out.d (k + size) (by have := HN.out; omega)
        have hx : (data.getD k 0).toNat < 256 := UInt8.toNat_lt _
        have hy : (data.getD (k + size) 0).toNat < 256 := UInt8.toNat_lt _
        have ea : mva (Rol.pa (wat data size k)) (data.getD k 0).toNat (data.getD (k + size) 0).toNat = Rol.pa (wat data size (k + 1)) := by
          have := HN.out
          rw [wat_head data size k (by omega) (by omega), wat_next data size k (by omega) (by omega)]; exact mva_move _ _ _
        have eb : mvb (Rol.pa (wat data size k)) (Rol.pb (wat data size k)) (data.getD k 0).toNat (data.getD (k + size) 0).toNat size = Rol.pb (wat data size (k + 1)) := by
          have := HN.out
          rw [wat_head data size k (by omega) (by omega), wat_next data size k (by omega) (by omega)]; exact mvb_move _ _ _ _ (by simp; omega)
        have hmv := fun w => moved_any (Rol.pa (wat data size k)) (Rol.pb (wat data size k)) (data.getD k 0).toNat (data.getD (k + size) 0).toNat size w ha hb hx hy (by omega)
        rw [ea, eb] at hmv
        have HMV : Hid (∀ w, Calls Try.prog 26 #[pv (Rol.pa (wat data size k)) (Rol.pb (wat data size k)), .int .u8 (data.getD k 0).toNat, .int .u8 (data.getD (k + size) 0).toNat, .int .i64 size] w fun e w' => e = .returned (pv (Rol.pa (wat data size (k + 1))) (Rol.pb (wat data size (k + 1)))) ∧ Kept [] w w') := hmv
        clear hmv ea eb
        have l1 := Rol.pa_lt (wat data size (k + 1))
        have l2 := Rol.pb_lt (wat data size (k + 1))
        generalize Rol.pa (wat data size k) = a at HMV p0 ha HW4
        generalize Rol.pb (wat data size k) = b at HMV p1 hb HW4
        generalize (data.getD k 0).toNat = x at HMV d0 hx
        generalize (data.getD (k + size) 0).toNat = y at HMV d1 hy
        have HMV3 := HMV.out
        clear HMV
        go_wp2
        obtain ⟨m, hm⟩ : ∃ m, m = k + size := ⟨_, rfl⟩
        rw [← hm] at d1 hlt
        have a3 : IntKind.i64.wrap ((k : Int) + (size : Int)) = (m : Int) := by rw [hm]; simp [IntKind.wrap, IntKind.bits, IntKind.signed]; omega
        have hkN : k < N := by omega
        have HM : Hid (m = k + size) := hm
        clear hm
        go_still_tail 12, Try.follows
        rw [World.drew_eq]
        have hk5' : Kept [] w4 w4.drew := (Kept.refl [] w4).drew
        go_wp2_with (go_at_call 26; refine (HMV3 _).mono ?_; rintro e w5 ⟨rfl, hk5⟩; have HW5 : Hid (Wl w5 P a b) := HW4.out.kept (hk5'.trans hk5 (by simp)) (by simp); have q0 : w5.cell? ⟨P, 0, none⟩ = some (.int .u16 a) := (by rw [cell_of_row _ _ _ _ _ _ HW5.out.row]; rfl); have q1 : w5.cell? ⟨P, 1, none⟩ = some (.int .u16 b) := (by rw [cell_of_row _ _ _ _ _ _ HW5.out.row]; rfl); have f0 : w5.frozen? ⟨P, 0, none⟩ = false := frozen_of_row _ _ _ _ _ HW5.out.row; have f1 : w5.frozen? ⟨P, 1, none⟩ = false := frozen_of_row _ _ _ _ _ HW5.out.row)
        have hk6 : Kept [P] w4 ((w5.setCell ⟨P, 0, none⟩ (.int .u16 (Rol.pa (wat data size (k + 1)) : Nat))).setCell ⟨P, 1, none⟩ (.int .u16 (Rol.pb (wat data size (k + 1)) : Nat))) := ((((Kept.refl [P] w4).drew.trans hk5 (by simp)).setCell (by simp) _).setCell (by simp) _)
        have HW6 : Hid (Wl ((w5.setCell ⟨P, 0, none⟩ (.int .u16 (Rol.pa (wat data size (k + 1)) : Nat))).setCell ⟨P, 1, none⟩ (.int .u16 (Rol.pb (wat data size (k + 1)) : Nat))) P (Rol.pa (wat data size (k + 1))) (Rol.pb (wat data size (k + 1)))) := by
          have r1 := heap_setCell_same w5 P 0 _ _ (.int .u16 (Rol.pa (wat data size (k + 1)) : Nat)) HW5.out.row
          refine ⟨?_⟩
          rw [heap_setCell_same _ _ _ _ _ _ r1]
          rfl
        have hl := HLT.out
        have HC6 := HC4.out.kept hk6 (by simp; omega) (by simp; omega) (by simp; omega)
        have HI6 := HST.out P (k + 1) _ _ hPw HT.out hk6
        clear HC4 HT HW4 HW5
        go_roundw
        case rel => exact ⟨k + 1, by have := HM.out; omega, by go_num, HW6, HC6, HI6⟩
        case measure => simp [intOf]; omega

set_option maxHeartbeats 400000 in
theorem win1_any (y : Value) (w : World) :
    Calls Try.prog 27 #[y] w fun e w' => e = .returned (.tuple #[]) ∧ w' = w := by
  go_enter Try.func27, Try.ntmps27
  go_wp2
  first | exact bodyPost_end (results_none rfl _ _ _) rfl ⟨rfl, rfl⟩ | exact bodyPost_ret (results_none rfl _ _ _) rfl ⟨rfl, rfl⟩

set_option maxHeartbeats 1000000 in
set_option maxRecDepth 100000 in
theorem windows_bad (ao : Option Addr) (n cap : Nat) (size : Int) (w : World) (hs : size < 1 ∨ (n : Int) < size) :
    Calls Try.prog 17 #[.slice ao n cap, .int .i64 size] w fun e w' => e = .returned (.func (.func 27) #[] #[]) ∧ Kept [] w w' := by
  have HK : Hid (Kept [] w (w.alloc (.cells #[.int .i64 size] 3))) := (Kept.refl _ _).alloc _
  by_cases h1 : size < 1
  · clear hs
    go_enter Try.func17, Try.ntmps17
    go_wp2
    go_ret
    exact ⟨rfl, HK.out⟩
  · have h2 : (n : Int) < size := by omega
    clear hs
    go_enter Try.func17, Try.ntmps17
    go_wp2
    go_ret
    exact ⟨rfl, HK.out⟩

set_option maxHeartbeats 1000000 in
set_option maxRecDepth 100000 in
theorem windows_ok (ao : Option Addr) (n cap size : Nat) (data : List UInt8) (w : World) (hx : data.length = n) (hm : n ≤ 140737488355328) (h : Sl w ao data) (h1 : 1 ≤ size) (h2 : size ≤ n) :
    Calls Try.prog 17 #[.slice ao n cap, .int .i64 size] w fun e w' => ∃ Kb Sb g cap', e = .returned (.func (.func 29) #[] #[.pointer (some ⟨Kb, 0, none⟩), .pointer (some ⟨Sb, 0, none⟩)]) ∧ Wc w' Kb Sb g cap' size data ∧ w.heap.size ≤ Kb ∧ w.heap.size ≤ Sb ∧ w.heap.size ≤ g ∧ Kept [] w w' := by
  have HX : Hid (data.length = n) := hx
  have HS : Hid (Sl (w.alloc (.cells #[.int .i64 size] 3)) ao data) := h.kept ((Kept.refl [] w).alloc _) (by simp)
  have hnn : ao = none → data = [] ∧ cap = 0 := fun e => by
    obtain ⟨b, off, e', _⟩ := h 0 (by omega)
    rw [e] at e'; cases e'
  clear hx h
  go_enter Try.func17, Try.ntmps17
  go_wp2_with (go_at_call 28; refine (clone_own ao n cap data _ HX.out (by rw [HX.out]; omega) HS.out hnn).mono ?_; rintro e w1 ⟨ao1, cap1, rfl, how1, hk1⟩; have HW1 : Hid (w1.ownsRow (w.alloc (.cells #[.int .i64 size] 3)).heap.size 5 1 (.slice ao1 n cap1) n (bys data)) := how1; clear how1)
  go_ret
  have hne : (Value.slice ao1 n cap1) ≠ .slice none 0 0 := by intro e; cases e; omega
  obtain ⟨g, cp, e1, hg1, hg2, hg3, hc, hfz⟩ := own_open HW1.out hne
  cases e1
  have hka : Kept [] w (w.alloc (.cells #[.int .i64 size] 3)) := (Kept.refl _ _).alloc _
  have hk2 : Kept [] w1 (w1.alloc (.cells #[.slice (some ⟨g, 0, none⟩) n cap1] 23)) := (Kept.refl _ _).alloc _
  have hsz := hka.size
  have hs2 := hk1.size
  refine ⟨w1.heap.size, w.heap.size, g, cap1, rfl, ?_, by omega, Nat.le_refl _, by omega, (hka.trans hk1 (by simp)).trans hk2 (by simp)⟩
  refine ⟨by rw [HX.out]; simp, ?_, fun i hi => hk2.cellOf (hc i hi) (by simp), h1, by rw [HX.out]; exact h2, by rw [HX.out]; exact hg3, by rw [HX.out]; exact hm⟩
  refine hk2.cellOf (hk1.cellOf ?_ (by simp)) (by simp)
  simp

end Go.Proofs.Ytjfekdcghgpchaa
