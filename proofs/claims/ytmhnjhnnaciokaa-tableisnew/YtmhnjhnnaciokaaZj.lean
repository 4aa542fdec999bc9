/-
  A table's form. Contract: table.Encode.
-/
import Derived.Test.YtmhnjhnnaciokaaZi
import Derived.Test.YtmhnjhnnaciokaaWr3
import Derived.Test.YtmhnjhnnaciokaaWr4
import Derived.Test.YtmhnjhnnaciokaaWr5
namespace Go.Proofs.Ytmhnjhnnaciokaa
open Go.RowKit
set_option linter.unusedVariables false
set_option linter.unusedSimpArgs false

namespace Tb
/-- P8.1: a result's form, a table's. -/
def encE (e : Res) : List UInt8 := e.action ++ e.root ++ [UInt8.ofNat e.code.toNat]
def encT (L : List Res) : List UInt8 := UInt8.ofNat L.length :: L.flatMap encE
/-- What Encode answers. -/
def encd (L : List Res) : List UInt8 := if valid L then encT L else []
def code (b : Bool) : Int := if b then 0 else 80
theorem encE_len (e : Res) : (encE e).length = 65 := by simp [encE, e.ha, e.hr]
theorem flat_snoc (L : List Res) (k : Nat) (h : k < L.length) : (L.take (k + 1)).flatMap encE = (L.take k).flatMap encE ++ encE (L.getD k res0) := by
  have e : L.getD k res0 = L[k] := by simp [List.getD, List.getElem?_eq_getElem h]
  rw [e, List.take_succ_eq_append_getElem h, List.flatMap_append]
  simp only [List.flatMap_cons, List.flatMap_nil, List.append_nil]
theorem flat_len (L : List Res) : (L.flatMap encE).length = 65 * L.length := by
  induction L with
  | nil => rfl
  | cons e r ih => simp only [List.flatMap_cons, List.length_append, encE_len, ih, List.length_cons]; omega
theorem valid_len {L : List Res} (h : valid L = true) : L.length ≤ 32 := by
  simp only [valid, Bool.and_eq_true, decide_eq_true_eq] at h
  exact h.1.1
theorem valid_code {L : List Res} (h : valid L = true) {k : Nat} (hk : k < L.length) : 0 ≤ (L.getD k res0).code ∧ (L.getD k res0).code ≤ 255 := by
  simp only [valid, Bool.and_eq_true, Bool.not_eq_true', List.any_eq_false] at h
  have := h.1.2 _ (getD_mem hk)
  simp only [noCode, Bool.or_eq_true, decide_eq_true_eq, not_or] at this
  omega
end Tb

/-- A new Writer. -/
def zeroW : Array Value := (wrow 0 0 none (List.replicate 64 0) 0).toArray
theorem Try.zeroWriter (W : World) : (zeroValue 64).run Try.prog W = .ok (.agg zeroW) W := by kernel_rfl
theorem wr_zero (w : World) : Wr (w.alloc (.cells zeroW 64)) w.heap.size [] [] := by
  refine ⟨⟨none, List.replicate 64 0, ⟨?_, by simp⟩, by simp, .nil⟩, by simp⟩
  rw [heap_new]
  rfl
theorem Try.slice32 (W : World) (b o : Nat) :
    (Instr.sliceAt 24 (.pointer (some ⟨b, o, none⟩)) none none none).run Try.prog W = .ok (.slice (some ⟨b, o, none⟩) 32 32) W := by
  have ha : Try.prog.arrayLen 24 = 32 := by kernel_rfl
  have hz : (sizeOf (Try.prog.elem 24)).run Try.prog W = .ok 1 W := by kernel_rfl
  have h := run_sliceAt_array_all (P := Try.prog) W 24 ⟨b, o, none⟩ (by kernel_rfl)
  rw [h, hz, ha]
  simp [slicedAt, Addr.add_mid]
theorem own_base {w : World} {b1 b2 : Nat} {e : TypeId} {size : Nat} {v : Value} {n : Nat} {xs : List Value} (h : w.ownsRow b1 e size v n xs) (hb : b2 ≤ b1) : w.ownsRow b2 e size v n xs := by
  refine ⟨h.1, ?_⟩
  rcases h.2 with h1 | ⟨g, cap, cur, h1, h2, h3⟩
  · exact .inl h1
  · exact .inr ⟨g, cap, cur, h1, Nat.le_trans hb h2, h3⟩
/-- The world with a new variable that holds a result. -/
def withRes (w : World) (e : Res) : World := (w.alloc (.cells zeroR 26)).setRow w.heap.size e.cells.toArray
theorem withRes_below (w : World) (e : Res) : Below w.heap.size w (withRes w e) := by
  have h : Below w.heap.size w (w.alloc (.cells zeroR 26)) := (Below.refl _ w).alloc (Nat.le_refl _) _
  exact ⟨h.os, h.tape, h.output, by unfold withRes; rw [size_setRow]; exact h.size, fun k hk => (setRow_other _ w.heap.size k _ (by omega)).trans (h.block k hk)⟩
theorem withRes_size (w : World) (e : Res) : (withRes w e).heap.size = w.heap.size + 1 := by unfold withRes; rw [size_setRow]; simp
theorem withRes_row (w : World) (e : Res) : (withRes w e).heap[w.heap.size]? = some (.cells e.cells.toArray 26 (0, 0)) := setRow_heap _ _ _ _ _ _ (heap_new w _)
theorem res_range {w : World} {g : Nat} {e : Res} {t : TypeId} {f : Nat × Nat} (h : w.heap[g]? = some (.cells e.cells.toArray t f)) : w.rangeAt g 0 e.cells := fun j v hv => by
  rw [Nat.zero_add, cell_of_row _ _ _ _ _ _ h]; simpa using hv
theorem new_zero (w : World) : (w.alloc (.cells zeroR 26)).heap[w.heap.size]? = some (.cells zeroR 26 (0, 0)) := heap_new w _
theorem zero_size (e : Res) : zeroR.size = e.cells.toArray.size := by rw [res_size]; rfl
theorem res_sl_act {w : World} {V : Nat} {e : Res} (h : w.rangeAt V 0 e.cells) : Sl w (some ⟨V, 0, none⟩) e.action := Sl.of fun i hi => by
  have := h i _ (Res.act (by rw [← e.ha]; exact hi))
  rw [Nat.zero_add] at this
  rw [Nat.zero_add]; exact this
theorem res_sl_root {w : World} {V : Nat} {e : Res} (h : w.rangeAt V 0 e.cells) : Sl w (some ⟨V, 32, none⟩) e.root := Sl.of fun i hi => by
  have := h (32 + i) _ (Res.roo (by rw [← e.hr]; exact hi))
  rw [Nat.zero_add] at this
  exact this
/-- What an Encode answers: bytes of its own and a number. -/
def Told (w w' : World) (r : Ending) (b : Bool) (xs : List UInt8) : Prop :=
  (∃ v, r = .returned (.tuple #[v, .int .i64 (Tb.code b)]) ∧ w'.ownsRow w.heap.size 5 1 v xs.length (bys xs)) ∧ Below w.heap.size w w'

set_option maxHeartbeats 3200000 in
set_option maxRecDepth 100000 in
theorem encode_no (ao : Option Addr) (n cap : Nat) (L : List Res) (w : World) (hn : L.length = n) (hcm : n ≤ 4611686018427387904) (hL : Ress w ao L) (hw : Wao ao) (ht : Tb.valid L = false) :
    Calls Try.prog 7 #[.slice ao n cap] w fun r w' => Told w w' r false [] := by
  have ha := valid_ok ao n cap L w hn hL hw hcm
  rw [ht] at ha
  clear hL ht hw
  go_enter Try.func7, Try.ntmps7
  go_wp2_with (go_at_call 13; refine ha.mono ?_; rintro r w1 ⟨rfl, hb⟩)
  go_ret2
  exact ⟨⟨_, rfl, World.ownsRow_nil _ _ _ _⟩, hb.below (Nat.le_refl _) (by simp)⟩

set_option maxHeartbeats 3200000 in
set_option maxRecDepth 100000 in
theorem encode_yes (ao : Option Addr) (n cap : Nat) (L : List Res) (w : World) (hn : L.length = n) (hcm : n ≤ 4611686018427387904) (hL : Ress w ao L) (hw : Wao ao) (ht : Tb.valid L = true) :
    Calls Try.prog 7 #[.slice ao n cap] w fun r w' => Told w w' r true (Tb.encT L) := by
  have ha := valid_ok ao n cap L w hn hL hw hcm
  rw [ht] at ha
  have h32 := Tb.valid_len ht
  have HTA : Hid (∀ k, k < L.length → 0 ≤ (L.getD k res0).code ∧ (L.getD k res0).code ≤ 255) := fun k hk => Tb.valid_code ht hk
  have HN : Hid (L.length = n) := hn
  have HL : Hid (Ress w ao L) := hL
  rw [hn] at h32
  clear hn hL ht hw
  have hz := Try.zeroRes
  have hzw := Try.zeroWriter
  go_enter Try.func7, Try.ntmps7
  go_wp2_with (go_at_call 13; refine ha.mono ?_; rintro r w1 ⟨rfl, hk1⟩)
  clear ha
  have hb1 : Below w.heap.size w w1 := hk1.below (Nat.le_refl _) (by simp)
  clear hk1
  have hw0 := wr_zero w1
  obtain ⟨B, hB⟩ : ∃ B, w1.heap.size = B := ⟨_, rfl⟩
  have hb0 : Below w.heap.size w (w1.alloc (.cells zeroW 64)) := hb1.alloc hb1.size _
  have hBw : w.heap.size ≤ B := by rw [← hB]; exact hb1.size
  rw [hB] at hw0 ⊢
  generalize w1.alloc _ = w2 at hw0 hb0 ⊢
  have hx2 := wnumber_ok hw0 n (by omega) (by simp)
  refine hx2.mono ?_
  rintro r w4 ⟨rfl, bs4, hw4, hk4, hs4⟩
  clear hx2 hw0
  have e4 : [] ++ Pure.enc n = [UInt8.ofNat n] := by rw [Pure.enc_small (by omega)]; rfl
  rw [e4] at hw4
  have hb4 : Below w.heap.size w w4 := hb0.trans (hk4.below hb0.size (by simp; omega))
  have hBS : ∀ g, g ∈ bs4 → w.heap.size ≤ g := fun g hg => by
    rcases hs4 g hg with h | h
    · simp at h
    · exact Nat.le_trans hb0.size h
  clear hs4 hk4 hb0 hb1 hB w1 w2 e4
  have H4 : Hid (Wr w4 B bs4 [UInt8.ofNat n] ∧ Below w.heap.size w w4 ∧ ∀ g, g ∈ bs4 → w.heap.size ≤ g) := ⟨hw4, hb4, hBS⟩
  clear hw4 hb4 hBS
  go_wp2_with (fail)
  go_loopw [15] (fun x wr => ∃ (k : Nat) (bs : List Nat), k ≤ n ∧ x = .int .i64 k ∧ Hid (Wr wr B bs ([UInt8.ofNat n] ++ (L.take k).flatMap Tb.encE)) ∧ Hid (Below w.heap.size w wr ∧ ∀ g, g ∈ bs → w.heap.size ≤ g)) (fun x wr => n - (intOf x).toNat)
  case atStart => exact ⟨0, bs4, Nat.zero_le _, rfl, by show Wr _ _ _ _; simpa using H4.out.1, H4.out.2⟩
  case round =>
    obtain ⟨k, bs, hk, rfl, HW, HB⟩ := hrel
    have hlen : ([UInt8.ofNat n] ++ (L.take k).flatMap Tb.encE).length ≤ 2 + 66 * 32 := by
      simp only [List.length_append, List.length_cons, List.length_nil, Tb.flat_len, List.length_take]; omega
    by_cases hlt : k < n
    · have hkl : k < L.length := by rw [HN.out]; exact hlt
      obtain ⟨b, off, rfl, hrg⟩ := (HL.out.below HB.out.1) k hkl
      obtain ⟨t1, t3⟩ := HTA.out k hkl
      have HF : Hid ((L.take (k + 1)).flatMap Tb.encE = (L.take k).flatMap Tb.encE ++ Tb.encE (L.getD k res0)) := Tb.flat_snoc L k hkl
      generalize L.getD k res0 = e at *
      have hnz := new_zero wr
      have hil : (Try.prog.info? 26).map (·.size) = some e.cells.length := by rw [e.len]; exact Try.infoResS
      have hia : (Try.prog.info? 26).map (·.size) = some e.cells.toArray.size := by rw [res_size]; exact Try.infoResS
      have hzs := zero_size e
      have hal := res_all e
      have hWb := withRes_below wr e
      have hWs := withRes_size wr e
      have hWr := res_range (withRes_row wr e)
      have hwB := HW.out.lt
      have hWw := HW.out.kept (Kept.of_below hWb) (by simp) (by simp)
      have hBW := HB.out.1.trans (hWb.mono HB.out.1.size)
      obtain ⟨kd, hkd⟩ : ∃ kd : Nat, e.code = kd := ⟨e.code.toNat, by omega⟩
      have hVB : wr.heap.size ≠ B := by omega
      have hf := wraw_ok hWw (some ⟨wr.heap.size, 0, none⟩) 32 32 e.action e.ha (res_sl_act hWr) (by rintro a ⟨⟩; exact hVB) (by rw [e.ha]; omega) (by have := hlen; have := e.ha; omega)
      have HOK : Hid (e.code = kd ∧ kd ≤ 255) := ⟨hkd, by omega⟩
      have HR : Hid ((withRes wr e).rangeAt wr.heap.size 0 e.cells ∧ Below w.heap.size w (withRes wr e) ∧ (withRes wr e).heap.size = wr.heap.size + 1 ∧ B < wr.heap.size) := ⟨hWr, hBW, hWs, hwB⟩
      have HLen := hide hlen
      clear hkd t1 t3 hWw hBW hWb hWs hWr hlen
      go_upto_region 8 with (first | refine wpList_load_mid rfl 26 (.tmp 17) rfl b (off + k * 65) rfl e.cells _ hrg Try.underlying26 rfl hil ?_ | refine wpList_store_rowTo rfl 26 (.tmp 6) (.tmp 18) rfl rfl wr.heap.size e.cells.toArray rfl rfl 26 zeroR hnz hia hzs hal ?_)
      have hW : (wr.alloc (.cells zeroR 26)).setRow wr.heap.size e.cells.toArray = withRes wr e := rfl
      rw [hW]
      clear hrg hil hia hzs hal hnz hW
      generalize withRes wr e = W at *
      obtain ⟨V, hV⟩ : ∃ V, wr.heap.size = V := ⟨_, rfl⟩
      simp only [hV] at *
      have s32 := fun W => Try.slice32 W V 0
      have s33 := fun W => Try.slice32 W V 32
      have HVB := hide hVB
      clear hVB
      go_wp2_with (first
        | (go_at_call 22; refine hf.mono ?_; rintro r w5 ⟨rfl, bs5, hw5, hk5, hs5⟩
           have hR5 : w5.rangeAt V 0 e.cells := fun j v hv => hk5.cellOf (HR.out.1 j v hv) (by have := HVB.out; simp; omega)
           have htx := wraw_ok hw5 (some ⟨V, 32, none⟩) 32 32 e.root e.hr (res_sl_root hR5) (by rintro a ⟨⟩; exact HVB.out) (by rw [e.hr]; omega) (by have := HLen.out; have := e.ha; have := e.hr; simp only [List.length_append] at *; omega)
           have H5 : Hid (w5.rangeAt V 0 e.cells ∧ Kept [B] W w5 ∧ ∀ g, g ∈ bs5 → g ∈ bs ∨ W.heap.size ≤ g) := ⟨hR5, hk5, hs5⟩
           clear hf hw5 hk5 hs5 hR5)
        | (go_at_call 22; refine htx.mono ?_; rintro r w7 ⟨rfl, bs7, hw7, hk7, hs7⟩
           have hR7 : w7.rangeAt V 0 e.cells := fun j v hv => hk7.cellOf (H5.out.1 j v hv) (by have := HVB.out; simp; omega)
           have c0 := hR7 64 _ e.cod
           rw [Nat.zero_add, HOK.out.1] at c0
           have hrw := wfixed_ok hw7 kd 1 (by omega) (by omega) (by have := HOK.out.2; omega) (by have := HLen.out; have := e.ha; have := e.hr; simp only [List.length_append] at *; omega)
           have H7 : Hid (Kept [B] W w7 ∧ ∀ g, g ∈ bs7 → g ∈ bs ∨ W.heap.size ≤ g) := ⟨H5.out.2.1.trans hk7 (by simp), fun g hg => by
             rcases hs7 g hg with h | h
             · exact H5.out.2.2 g h
             · exact .inr (Nat.le_trans H5.out.2.1.size h)⟩
           clear htx hw7 hk7 hs7 H5 hR7)
        | (go_at_call 23; refine hrw.mono ?_; rintro r w8 ⟨rfl, bs8, hw8, hk8, hs8⟩
           have H8 : Hid (Wr w8 B bs8 _ ∧ Kept [B] W w8 ∧ ∀ g, g ∈ bs8 → g ∈ bs ∨ W.heap.size ≤ g) := ⟨hw8, H7.out.1.trans hk8 (by simp), fun g hg => by
             rcases hs8 g hg with h | h
             · exact H7.out.2 g h
             · exact .inr (Nat.le_trans H7.out.1.size h)⟩
           clear hrw hw8 hk8 hs8 H7 c0))
      go_roundw
      case rel =>
        refine ⟨k + 1, bs8, by omega, by go_num, ?_, ?_⟩
        · show Wr _ _ _ _
          have := H8.out.1
          rw [HF.out]
          have e1 : [UInt8.ofNat n] ++ ((L.take k).flatMap Tb.encE ++ Tb.encE e) = [UInt8.ofNat n] ++ (L.take k).flatMap Tb.encE ++ e.action ++ e.root ++ Pure.fix kd 1 := by
            have hf1 : Pure.fix kd 1 = [UInt8.ofNat kd] := by
              simp only [Pure.fix, Nat.pow_zero, Nat.div_one]
              rw [UInt8.ofNat_mod_size]
            rw [hf1]
            simp [Tb.encE, HOK.out.1]
          rw [e1]; exact this
        · refine ⟨HR.out.2.1.trans (H8.out.2.1.below HR.out.2.1.size (by simp; omega)), fun g hg => ?_⟩
          rcases H8.out.2.2 g hg with h | h
          · exact HB.out.2 g h
          · exact Nat.le_trans HR.out.2.1.size h
      case measure => simp [intOf]; omega
    · obtain rfl : k = n := by omega
      have he : [UInt8.ofNat k] ++ (L.take k).flatMap Tb.encE = Tb.encT L := by
        rw [List.take_of_length_le (by rw [HN.out]; exact Nat.le_refl _)]
        simp [Tb.encT, HN.out]
      have hw := HW.out
      rw [he] at hw hlen
      obtain ⟨X, hX⟩ : ∃ X, Tb.encT L = X := ⟨_, rfl⟩
      rw [hX] at hw hlen
      have HX := hide hX
      have hd := wdata_own hw (by omega)
      clear hX he hw HW hlen
      go_wp2_with (go_at_call 24; refine hd.mono ?_; rintro r w5 ⟨ao', cap', rfl, hfr, hne, hk5, how⟩; have HO := hide (And.intro hk5 how); clear hd hfr hne hk5 how)
      go_ret2
      refine ⟨⟨_, rfl, ?_⟩, HB.out.1.trans (HO.out.1.below HB.out.1.size (by simp))⟩
      rw [HX.out]
      exact own_base HO.out.2 HB.out.1.size
theorem encode_ok (ao : Option Addr) (n cap : Nat) (L : List Res) (w : World) (hn : L.length = n) (hcm : n ≤ 4611686018427387904) (hL : Ress w ao L) (hw : Wao ao) :
    Calls Try.prog 7 #[.slice ao n cap] w fun r w' => Told w w' r (Tb.valid L) (Tb.encd L) := by
  unfold Tb.encd
  cases ht : Tb.valid L with
  | false => exact encode_no ao n cap L w hn hcm hL hw ht
  | true => exact encode_yes ao n cap L w hn hcm hL hw ht
end Go.Proofs.Ytmhnjhnnaciokaa
