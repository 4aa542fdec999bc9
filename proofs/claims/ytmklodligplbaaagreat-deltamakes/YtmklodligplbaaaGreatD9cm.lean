import Derived.Test.YtmklodligplbaaaGreatD8zm
open Go.RowKit
set_option linter.unusedVariables false
set_option linter.unusedSimpArgs false
set_option maxRecDepth 100000
set_option maxHeartbeats 51200000
namespace Go.Proofs.YtmklodligplbaaaGreat
section
open Dlt
theorem InsAt.cell {w0 w : World} {lo : Option Addr} {n lc : Nat} {L : List Stp} (h : InsAt w0 w (.slice lo n lc) L) {i : Nat} (hi : i < L.length) : ∃ g off u s, lo = some ⟨g, off, none⟩ ∧ w.cell? ⟨g, off + i, none⟩ = some u ∧ L[i]? = some s ∧ StpV w0 s u := by
 obtain ⟨vals, hown, hl, hv⟩ := h.out
 rcases hown.2 with ⟨e, h0⟩ | ⟨g, cp, cur, e, _, hg, _, _, _, ht⟩
 ·omega
 ·cases e
  obtain ⟨u, hvi⟩ : ∃ u, vals[i]? = some u := ⟨_, List.getElem?_eq_getElem (by omega)⟩
  have hsi : L[i]? = some L[i] := List.getElem?_eq_getElem hi
  refine ⟨g, 0, u, L[i], rfl, ?_, hsi, hv i _ _ hsi hvi⟩
  rw [Nat.zero_add, cell_of_row _ _ _ _ _ _ hg]
  rw [<-ht, List.getElem?_take] at hvi
  split at hvi
  ·simpa using hvi
  ·cases hvi
def ordC (W Z : Int) (bk tk : Wk) (v : Value) : List Value := .int .i64 W :: .int .i64 Z :: (bk.cells ++ (tk.cells ++ [v]))
theorem ordC_len (W Z : Int) (bk tk : Wk) (v : Value) : (ordC W Z bk tk v).length = 69 := by simp [ordC, bk.len, tk.len]
theorem ordC_b {W Z : Int} {bk tk : Wk} {v : Value} {j : Nat} {u : Value} (h : bk.cells[j]? = some u) : (ordC W Z bk tk v)[2 + j]? = some u := by
 have hj := (List.getElem?_eq_some_iff.1 h).1
 unfold ordC
 rw [show 2 + j = j + 1 + 1 by omega, List.getElem?_cons_succ, List.getElem?_cons_succ, List.getElem?_append_left hj]
 exact h
theorem ordC_t {W Z : Int} {bk tk : Wk} {v : Value} {j : Nat} {u : Value} (h : tk.cells[j]? = some u) : (ordC W Z bk tk v)[35 + j]? = some u := by
 have hj := (List.getElem?_eq_some_iff.1 h).1
 unfold ordC
 rw [show 35 + j = (33 + j) + 1 + 1 by omega, List.getElem?_cons_succ, List.getElem?_cons_succ, List.getElem?_append_right (by rw [bk.len]; omega), bk.len, show 33 + j - 33 = j by omega, List.getElem?_append_left hj]
 exact h
theorem ordC_v (W Z : Int) (bk tk : Wk) (v : Value) : (ordC W Z bk tk v)[68]? = some v := by
 unfold ordC
 rw [show 68 = 66 + 1 + 1 by omega, List.getElem?_cons_succ, List.getElem?_cons_succ, List.getElem?_append_right (by rw [bk.len]; omega), bk.len, List.getElem?_append_right (by rw [tk.len]; omega), tk.len]
 rfl
structure OrdAt (w : World) (G : Nat) (W Z : Int) (bk tk : Wk) (v : Value) : Prop where
 row : w.heap[G]? = some (.cells (ordC W Z bk tk v).toArray 71 (0, 0))
theorem OrdAt.kept {l : List Nat} {w w' : World} {G : Nat} {W Z : Int} {bk tk : Wk} {v : Value} (h : OrdAt w G W Z bk tk v) (hk : Kept l w w') (hn : G ∉ l) : OrdAt w' G W Z bk tk v := ⟨(hk.block G (gs h.row).1 hn).trans h.row⟩
theorem OrdAt.c {w : World} {G : Nat} {W Z : Int} {bk tk : Wk} {v : Value} (h : OrdAt w G W Z bk tk v) {j : Nat} {u : Value} (hu : (ordC W Z bk tk v)[j]? = some u) : w.cell? ⟨G, j, none⟩ = some u := by rw [cell_of_row _ _ _ _ _ _ h.row]; simpa using hu
theorem OrdAt.b {w : World} {G : Nat} {W Z : Int} {bk tk : Wk} {v : Value} (h : OrdAt w G W Z bk tk v) : w.rangeAt G 2 bk.cells := fun j u hu => h.c (ordC_b hu)
theorem OrdAt.t {w : World} {G : Nat} {W Z : Int} {bk tk : Wk} {v : Value} (h : OrdAt w G W Z bk tk v) : w.rangeAt G 35 tk.cells := fun j u hu => h.c (ordC_t hu)
theorem OrdAt.new (w : World) (W Z : Int) (bk tk : Wk) (v : Value) : OrdAt (w.alloc (.cells (ordC W Z bk tk v).toArray 71)) w.heap.size W Z bk tk v := ⟨heap_new w _⟩
theorem Tryz.infoSeal (e : Wk) : (Tryz.prog.info? 68).map (·.size) = some e.cells.length := by rw [e.len]; exact Tryz.infoSealS
theorem Tryz.infoSealA (e : Wk) : (Tryz.prog.info? 68).map (·.size) = some e.cells.toArray.size := by rw [wk_size]; exact Tryz.infoSealS
theorem Tryz.builtTwo0 (f g : Nat -> UInt8) (x y : Int) (W : World) : (Instr.buildSlice 121 2 #[(0, .agg (.int .i64 x :: bys ((List.range 32).map f)).toArray), (1, .agg (.int .i64 y :: bys ((List.range 32).map g)).toArray)]).run Tryz.prog W = .ok (.slice (some ⟨W.heap.size, 0, none⟩) 2 2) (W.alloc (.cells ((.int .i64 x :: bys ((List.range 32).map f)) ++ (.int .i64 y :: bys ((List.range 32).map g))).toArray 68)) := by kernel_rfl
theorem Tryz.builtTwo (b t : Wk) (W : World) : (Instr.buildSlice 121 2 #[(0, .agg b.cells.toArray), (1, .agg t.cells.toArray)]).run Tryz.prog W = .ok (.slice (some ⟨W.heap.size, 0, none⟩) 2 2) (W.alloc (.cells (b.cells ++ t.cells).toArray 68)) := by
 have h := Tryz.builtTwo0 (fun i => b.id.getD i 0) (fun i => t.id.getD i 0) b.sum t.sum W
 rw [range32 b.hid, range32 t.hid] at h
 exact h
theorem wpList_buildTwo8 {ops : Array Oper} {rest : List Oper} {o : Oper} {a : Act} {w : World} {Q : Exit -> Act -> World -> Prop} (hgd : o.guard = none) (t : TypeId) (n : Nat) (parts : Array (Nat × Operand)) (ho : o.op = .buildSlice t n parts) (vals : Array (Nat × Value)) (hv : (parts.map fun (i, x) => (i, a.eval x)) = vals) {v : Value} {w' : World} (hrun : (Instr.buildSlice t n vals).run Tryz.prog w = .ok v w')
  (h : wpList Tryz.prog ops Q rest (a.put o.dst v) w') : wpList Tryz.prog ops Q (o :: rest) a w :=
 wpList_plain hgd fun _ hK => by
  unfold Oper.wp execOp
  simp only [ho, hv, Sem.run_bind, hrun, Result.andThen_ok]
  exact hK _ _ h
def encK (W : Nat) (e : Wk) : List UInt8 := Pure.enc e.sum.toNat ++ e.id.take W
theorem encK_len {W : Nat} {e : Wk} (hW : W <= 32) (h : e.sum.toNat <= 2147483647) : (encK W e).length <= 40 := by
 have := Pure.enc_len5 (v := e.sum.toNat) (by omega)
 simp only [encK, List.length_append, List.length_take, e.hid]
 omega
end

section
open Dlt
theorem flatI_snoc {L : List Stp} {k : Nat} {s : Stp} (h : L[k]? = some s) : (L.take (k + 1)).flatMap encI = (L.take k).flatMap encI ++ encI s := by
 obtain ⟨hk, rfl⟩ := List.getElem?_eq_some_iff.1 h
 rw [List.take_succ_eq_append_getElem hk, List.flatMap_append]
 simp only [List.flatMap_cons, List.flatMap_nil, List.append_nil]
theorem flatI_le (L : List Stp) (k : Nat) : ((L.take k).flatMap encI).length <= (L.flatMap encI).length := by
 conv => rhs; rw [<-List.take_append_drop k L, List.flatMap_append, List.length_append]
 omega
theorem writeOrder_ok (W Z : Nat) (bk tk : Wk) (lo : Option Addr) (n lc : Nat) (L : List Stp) (w0 w : World) (hW2 : W <= 32) (hZ2 : Z <= 4096) (hb1 : 0 <= bk.sum) (hb2 : bk.sum <= 2147483647) (ht1 : 0 <= tk.sum) (ht2 : tk.sum <= 2147483647) (hI : InsAt w0 w (.slice lo n lc) L) (hL : L.length = n) (hn : n <= 1000000) (h0 : Kept [] w0 w) (hst : ∀ s, s ∈ L -> okW s) (hlen : (L.flatMap encI).length <= 5000000) (out : List UInt8) (hout : sealed ([] ++ Pure.fix 68 1 ++ Pure.enc W ++ Pure.enc Z ++ [bk, tk].flatMap (encK W) ++ Pure.enc n ++ L.flatMap encI) = out) :
  Calls Tryz.prog 35 #[.agg (ordC W Z bk tk (.slice lo n lc)).toArray] w fun e w' => RowB w w' e out ∧ Kept [] w w' := by
 have HOUT := hide hout
 clear hout
 have hA := OrdAt.new w W Z bk tk (.slice lo n lc)
 have hK := ka w (.cells (ordC W Z bk tk (.slice lo n lc)).toArray 71)
 have HIN := hide (ai hI (ai hL (ai h0 (ai hst hlen))))
 have hzw := Tryz.zeroWriter
 have hG : w.heap.size < (w.alloc (.cells (ordC W Z bk tk (.slice lo n lc)).toArray 71)).heap.size := by simp
 clear hI hL h0 hst hlen
 obtain ⟨G, hGG⟩ := nm (w.heap.size)
 rw [hGG] at hA hG
 go_enter Tryz.func35, Tryz.ntmps35
 go_upto_region 1 with (fail)
 have HGG := hide hGG
 clear hGG
 generalize w.alloc (.cells (ordC W Z bk tk (.slice lo n lc)).toArray 71) = w1 at *
 have hq := Wq.new hK
 have hka := ka w1 (.cells zeroW 118)
 obtain ⟨B, hB⟩ := nm (w1.heap.size)
 rw [hB] at hq hG
 go_upto_region 2 with (fail)
 clear hB
 generalize w1.alloc (.cells zeroW 118) = w2 at *
 have hGB : G ≠ B := by omega
 have HO2 := hide (hA.kept hka (by simp))
 have hf := fixed_q hq 68 1 (by omega) (by omega) (by omega) (by simp)
 clear hq hka hA
 go_upto_region 3 with (go_at_call 67; refine hf.mono ?_; rintro r w3 ⟨rfl, hq3, hk3⟩; clear hf)
 have HO3 := hide (HO2.out.kept hk3 (by simpa using hGB))
 have c0 := HO3.out.c (j := 0) (u := .int .i64 W) rfl
 have hn1 := number_q hq3 W (by omega) (by simp [Pure.fix_len])
 clear hk3 hq3 HO2
 go_upto_region 4 with (go_at_call 68; refine hn1.mono ?_; rintro r w4 ⟨rfl, hq4, hk4⟩; clear hn1)
 have HO4 := hide (HO3.out.kept hk4 (by simpa using hGB))
 have c1 := HO4.out.c (j := 1) (u := .int .i64 Z) rfl
 have hl4 : ([] ++ Pure.fix 68 1 ++ Pure.enc W).length <= 100 := by have := Pure.enc_len5 (v := W) (by omega); simp [Pure.fix_len]; omega
 have hn1 := number_q hq4 Z (by omega) (by omega)
 clear hk4 hq4 HO3 c0
 go_upto_region 5 with (go_at_call 68; refine hn1.mono ?_; rintro r w5 ⟨rfl, hq5, hk5⟩; clear hn1)
 have HO5 := hide (HO4.out.kept hk5 (by simpa using hGB))
 have hl5 : ([] ++ Pure.fix 68 1 ++ Pure.enc W ++ Pure.enc Z).length <= 200 := by have := Pure.enc_len5 (v := Z) (by omega); rw [List.length_append]; omega
 have HQ5 := hide hq5
 have hrb := HO5.out.b
 have hrt := HO5.out.t
 have hib := Tryz.infoSeal bk
 have hit := Tryz.infoSeal tk
 have hbt := Tryz.builtTwo bk tk w5
 have HLT : Hid (G < B) := hG
 clear hk5 hq5 HO4 c1 hl4
 obtain ⟨hd, hhd⟩ := nm ([] ++ Pure.fix 68 1 ++ Pure.enc W ++ Pure.enc Z)
 rw [hhd] at HQ5 hl5
 have HHD := hide hhd
 clear hhd
 go_upto_region 6 with (first
  | refine wpList_load_mid rfl 68 (.tmp 15) rfl G 2 rfl bk.cells _ hrb Tryz.underlying68 rfl hib ?_
  | refine wpList_load_mid rfl 68 (.tmp 17) rfl G 35 rfl tk.cells _ hrt Tryz.underlying68 rfl hit ?_
  | refine wpList_buildTwo8 rfl 121 2 #[(0, .tmp 16), (1, .tmp 18)] rfl #[(0, .agg bk.cells.toArray), (1, .agg tk.cells.toArray)] (by simp [Act.eval, Act.put]) hbt ?_)
 have hk6 := ka w5 (.cells (bk.cells ++ tk.cells).toArray 68)
 have HO6 := hide (HO5.out.kept hk6 (by simp))
 have HQ6 := hide (HQ5.out.later hk6)
 have HD6 := hide (heap_new w5 (.cells (bk.cells ++ tk.cells).toArray 68))
 have HBD : Hid (B < w5.heap.size) := HQ5.out.lt
 clear hrb hrt hib hit hbt HO5 HQ5 hk6
 generalize w5.alloc (.cells (bk.cells ++ tk.cells).toArray 68) = w6 at *
 generalize w5.heap.size = D at *
 clear w5
 go_loopw [21] (fun x wr => ∃ k : Nat, k <= 2 ∧ x = .int .i64 k ∧ Hid (Wq w wr B (hd ++ ([bk, tk].take k).flatMap (encK W))) ∧ Hid (OrdAt wr G W Z bk tk (.slice lo n lc)) ∧ Hid (wr.heap[D]? = some (.cells (bk.cells ++ tk.cells).toArray 68 (0, 0)))) (fun x wr => 2 - (intOf x).toNat)
 case atStart => exact ⟨0, by omega, rfl, by show Wq _ _ _ _; simpa using HQ6.out, HO6, HD6⟩
 case round =>
  clear HQ6 HO6 HD6
  obtain ⟨k, hk, rfl, HQ, HO, HD⟩ := hrel
  have hlen : (hd ++ ([bk, tk].take k).flatMap (encK W)).length <= 400 := by
   have e1 := encK_len (e := bk) hW2 (by omega)
   have e2 := encK_len (e := tk) hW2 (by omega)
   rcases (show k = 0 ∨ k = 1 ∨ k = 2 by omega) with rfl | rfl | rfl <;> simp <;> omega
  by_cases hlt : k < 2
  ·obtain ⟨e, he⟩ : ∃ e, [bk, tk][k]? = some e := ⟨_, List.getElem?_eq_getElem (by simpa using hlt)⟩
   have hrg : wr.rangeAt D (k * 33) e.cells := by
    have hr := row_rangeK HD.out
    rcases (show k = 0 ∨ k = 1 by omega) with rfl | rfl
    ·cases he
     intro j u hu
     have := hr j u (by rw [List.getElem?_append_left (List.getElem?_eq_some_iff.1 hu).1]; exact hu)
     simpa using this
    ·cases he
     intro j u hu
     have := hr (33 + j) u (by rw [List.getElem?_append_right (by rw [bk.len]; omega), bk.len, Nat.add_sub_cancel_left]; exact hu)
     simpa using this
   have HF : Hid (([bk, tk].take (k + 1)).flatMap (encK W) = ([bk, tk].take k).flatMap (encK W) ++ encK W e) := by
    rcases (show k = 0 ∨ k = 1 by omega) with rfl | rfl <;> (cases he; show _ = _; simp)
   have t1 : 0 <= e.sum ∧ e.sum <= 2147483647 := by
    rcases (show k = 0 ∨ k = 1 by omega) with rfl | rfl <;> (cases he; exact ⟨by assumption, by assumption⟩)
   have hnz := heap_new wr (.cells zeroK 68)
   have hil := Tryz.infoSeal e
   have hia := Tryz.infoSealA e
   have hzs := zeroK_size e
   have hal := wk_all e
   have hzk := Tryz.zeroSeal
   clear he
   go_upto_region 8 with (first | refine wpList_load_mid rfl 68 (.tmp 23) rfl D (k * 33) rfl e.cells _ hrg Tryz.underlying68 rfl hil ?_ | refine wpList_store_rowTo rfl 68 (.tmp 5) (.tmp 24) rfl rfl wr.heap.size e.cells.toArray rfl rfl 68 zeroK hnz hia hzs hal ?_)
   have hkw : Kept [] wr ((wr.alloc (.cells zeroK 68)).setRow wr.heap.size e.cells.toArray) := ((Kept.refl [] wr).alloc _).tr (kept_row _ _ _)
   have hrw := row_rangeK (w := (wr.alloc (.cells zeroK 68)).setRow wr.heap.size e.cells.toArray) (setRow_heap _ _ _ _ _ _ (heap_new wr _))
   have hq := HQ.out.later hkw
   have HO1 := hide (HO.out.kept hkw (by simp))
   have HDL : Hid (D < wr.heap.size) := (gs HD.out).1
   have HD1 := hide ((hkw.block D HDL.out (by simp)).trans HD.out)
   have hVB : wr.heap.size ≠ B := by have := HQ.out.lt; omega
   clear hrg hia hzs hal hnz HQ HO HD hil hkw hzk
   obtain ⟨V, hV⟩ := nm (wr.heap.size)
   rw [hV] at hrw hVB HDL ⊢
   have hX : (wr.alloc (.cells zeroK 68)).setRow V e.cells.toArray = (wr.alloc (.cells zeroK 68)).setRow wr.heap.size e.cells.toArray := by rw [hV]
   rw [hX] at hrw ⊢
   clear hV hX
   generalize (wr.alloc (.cells zeroK 68)).setRow wr.heap.size e.cells.toArray = W2 at *
   obtain ⟨S, hS⟩ := Int.eq_ofNat_of_zero_le t1.1
   have cs := hrw 0 _ e.su
   rw [Nat.zero_add, hS] at cs
   have hS2 : S <= 2147483647 := by omega
   have hf := number_q hq S hS2 (by omega)
   have hes : e.sum.toNat = S := by omega
   have HES := hide hes
   have e5 := Pure.enc_len5 (v := S) (by omega)
   have H2 := hide hrw
   clear hq hS t1 hes hrw
   go_upto_region 9 with (go_at_call 68; refine hf.mono ?_; rintro r w3 ⟨rfl, hq3, hk3⟩; clear hf)
   have HO3 := hide (HO1.out.kept hk3 (by simpa using hGB))
   have c0 := HO3.out.c (j := 0) (u := .int .i64 W) rfl
   have hDB : D ≠ B := by have := HBD.out; omega
   have HD3 := hide ((hk3.block D (gs HD1.out).1 (by simpa using hDB)).trans HD1.out)
   have hrw3 : w3.rangeAt V 0 e.cells := fun j v hv => hk3.cellOf (H2.out j v hv) (by simpa using hVB)
   have hsl3 := (wk_sl hrw3).take W
   have hbl3 : (e.id.take W).length = W := by rw [List.length_take, e.hid]; omega
   have hn1 := raw_q hq3 (some ⟨V, 0 + 1, none⟩) W 32 (e.id.take W) hbl3 hsl3 (by rintro a ⟨⟩; exact hVB) hW2 (by rw [List.length_append]; omega) (by omega)
   have hsi := fun X => Tryz.sliceIDo X V 1 W hW2
   rw [Nat.zero_add] at hn1
   clear hrw3 hsl3 hbl3 hq3 hk3 HO1 HD1 H2 cs
   go_wp2_with (go_at_call 69; refine hn1.mono ?_; rintro r w5 ⟨rfl, hq5, hk5⟩; have H5 := hide (ai hq5 hk5); clear hn1 hq5 hk5)
   go_roundw
   case rel =>
    refine ⟨k + 1, by omega, by go_num, ?_, HO3.out.kept H5.out.2 (by simpa using hGB), (H5.out.2.block D (gs HD3.out).1 (by simpa using hDB)).trans HD3.out⟩
    show Wq _ _ _ _
    rw [HF.out]
    unfold encK
    rw [HES.out]
    have := H5.out.1
    simp only [List.append_assoc] at this ⊢
    exact this
   case measure => simp [intOf]; omega
  ·obtain rfl : k = 2 := by omega
   have hq := HQ.out
   rw [List.take_of_length_le (by simp)] at hq hlen
   have c4 := HO.out.c (ordC_v W Z bk tk (.slice lo n lc))
   have hn1 := number_q hq n (by omega) (by omega)
   have e5 := Pure.enc_len5 (v := n) (by omega)
   clear HQ hq HD
   go_upto_region 12 with (go_at_call 68; refine hn1.mono ?_; rintro r w3 ⟨rfl, hq3, hk3⟩; clear hn1)
   have HO3 := hide (HO.out.kept hk3 (by simpa using hGB))
   clear c4
   have c4 := HO3.out.c (ordC_v W Z bk tk (.slice lo n lc))
   have hl3 : (hd ++ [bk, tk].flatMap (encK W) ++ Pure.enc n).length <= 500 := by rw [List.length_append]; omega
   have HQ3 := hide hq3
   clear hq3 hk3 HO hlen e5
   obtain ⟨h2, hh2⟩ := nm (hd ++ [bk, tk].flatMap (encK W) ++ Pure.enc n)
   rw [hh2] at HQ3 hl3
   have HE : Hid (sealed (h2 ++ L.flatMap encI) = out) := by show _ = _; rw [<-HOUT.out, HHD.out, hh2]
   clear hh2 HHD HOUT
   go_wp2
   go_loopw [41] (fun x wr => ∃ k : Nat, k <= n ∧ x = .int .i64 k ∧ Hid (Wq w wr B (h2 ++ (L.take k).flatMap encI))) (fun x wr => n - (intOf x).toNat)
   case atStart => exact ⟨0, Nat.zero_le _, rfl, by show Wq _ _ _ _; simpa using HQ3.out⟩
   case round =>
    clear HQ3 HO3 c4
    obtain ⟨k, hk, rfl, HQ⟩ := hrel
    have hlen : (h2 ++ (L.take k).flatMap encI).length <= 6000000 := by have := flatI_le L k; have := HIN.out.2.2.2.2; rw [List.length_append]; omega
    by_cases hlt : k < n
    ·obtain ⟨g, off, u, s, rfl, hcell, hsi, hsv⟩ := (HIN.out.1.kept HQ.out.kp).cell (i := k) (by rw [HIN.out.2.1]; exact hlt)
     have hok := HIN.out.2.2.2.1 s (List.mem_of_getElem? hsi)
     have HF := hide (flatI_snoc hsi)
     have hwi := writeInstruction_ok HQ.out s u (hsv.kept HIN.out.2.2.1) (by omega) hok
     clear hsi hsv hok
     go_wp2_with (go_at_call 70; refine hwi.mono ?_; rintro r w5 ⟨rfl, hq5, hk5⟩; have H5 := hide hq5; clear hwi hq5 hk5)
     go_roundw
     case rel =>
      refine ⟨k + 1, by omega, by go_num, ?_⟩
      show Wq _ _ _ _
      rw [HF.out, <-List.append_assoc]
      exact H5.out
     case measure => simp [intOf]; omega
    ·obtain rfl : k = n := by omega
     have hqe := HQ.out
     rw [List.take_of_length_le (by rw [HIN.out.2.1]; exact Nat.le_refl _)] at hqe hlen
     have hsu := summed_ok hqe (by omega)
     have HGE := hide (ai hqe.kp hqe.ge)
     rw [HE.out] at hsu
     obtain ⟨ol, hol⟩ := nm (out.length)
     unfold RowB at hsu
     rw [hol] at hsu
     have HOL := hide hol
     clear HQ hqe hol
     go_wp2_with (go_at_call 71; refine hsu.mono ?_; rintro r w5 ⟨⟨ao5, cap5, rfl, ho5⟩, hk5⟩; have H5 := hide (ai ho5 hk5); clear hsu ho5 hk5)
     go_ret
     refine ⟨⟨ao5, cap5, by rw [HOL.out]; rfl, by rw [HOL.out]; exact own_base H5.out.1 HGE.out.1.size⟩, HGE.out.1.trans H5.out.2 (fun i hi hl => ?_)⟩
     simp only [List.mem_singleton] at hi
     have := HGE.out.2
     omega
end

section
open Dlt
def litL : Stp -> Nat
 | .copy _ _ => 0
 | .lit bs => bs.length
def litS (L : List Stp) : Nat := (L.map litL).sum
theorem litS_copy (L : List Stp) (f c : Nat) : litS (L ++ [.copy f c]) = litS L := by simp [litS, litL]
theorem litS_lit (L : List Stp) (bs : List UInt8) : litS (L ++ [.lit bs]) = litS L + bs.length := by simp [litS, litL]
theorem accL_ok {acc : List Stp} {ys : List UInt8} {a : Nat} (hy : ys ≠ []) (hl : ys.length <= 1000000) (h : ∀ s, s ∈ acc -> okW s) : (∀ s, s ∈ accL acc ys a -> okW s) ∧ litS (accL acc ys a) <= litS acc + min a ys.length := by
 unfold accL
 split
 ·next ha =>
  refine ⟨fun s hs => ?_, by rw [litS_lit, List.length_take]; omega⟩
  rw [List.mem_append, List.mem_singleton] at hs
  rcases hs with hs | rfl
  ·exact h s hs
  ·refine ⟨fun e => ?_, by rw [List.length_take]; omega⟩
   have h0 : (ys.take a).length = 0 := by rw [e]; rfl
   have hp : 0 < ys.length := List.length_pos_iff.2 hy
   rw [List.length_take] at h0
   omega
 ·exact ⟨h, by omega⟩
theorem insF_ok {wd : Int} {Z : Nat} {L : List Wk} (hZ : 1 <= Z) (hL : L.length <= 1000000) : ∀ (k : Nat) (acc : List Stp) (ys : List UInt8), ys.length <= 1000000 -> (∀ s, s ∈ acc -> okW s) -> (∀ s, s ∈ insF wd Z L k acc ys -> okW s) ∧ litS (insF wd Z L k acc ys) <= litS acc + ys.length
 | 0, acc, ys, _, h => ⟨h, by show litS acc <= _; omega⟩
 | k + 1, acc, ys, hl, h => by
  unfold insF
  split
  ·exact ⟨h, by omega⟩
  ·next hc =>
   have hy : ys ≠ [] := fun e => hc (.inl e)
   obtain ⟨h1, h2⟩ := accL_ok (a := (nextI wd Z L ys).1) hy hl h
   have hle := nextI_le wd Z L ys
   split
   ·exact ⟨h1, by omega⟩
   ·next hd =>
    have hlt : (nextI wd Z L ys).1 < ys.length := by
     apply Classical.byContradiction; intro hh
     exact hd (List.drop_of_length_le (by omega))
    obtain ⟨hf, _⟩ := next_cnt (wd := wd) (L := L) hZ hlt
    have hcn := (cntW_le wd Z (L.drop (nextI wd Z L ys).2) (ys.drop (nextI wd Z L ys).1)).1
    rw [List.length_drop] at hcn
    have hr := insF_ok (wd := wd) hZ hL k (accL acc ys (nextI wd Z L ys).1 ++ [.copy (nextI wd Z L ys).2 (cntW wd Z (L.drop (nextI wd Z L ys).2) (ys.drop (nextI wd Z L ys).1))]) ((ys.drop (nextI wd Z L ys).1).drop (cntW wd Z (L.drop (nextI wd Z L ys).2) (ys.drop (nextI wd Z L ys).1) * Z)) (by rw [List.length_drop, List.length_drop]; omega) (fun s hs => by
     rw [List.mem_append, List.mem_singleton] at hs
     rcases hs with hs | rfl
     ·exact h1 s hs
     ·exact ⟨by omega, by omega⟩)
    refine ⟨hr.1, Nat.le_trans hr.2 ?_⟩
    rw [litS_copy, List.length_drop, List.length_drop]
    omega
theorem encI_len {s : Stp} (h : okW s) : (encI s).length <= 11 + litL s := by
 cases s with
 | copy f c =>
  obtain ⟨h1, h2⟩ := h
  have e1 := Pure.enc_len5 (v := f) (by omega)
  have e2 := Pure.enc_len5 (v := c) (by omega)
  simp only [encI, litL, List.length_append, Pure.fix_len]
  omega
 | lit bs =>
  obtain ⟨h1, h2⟩ := h
  have e1 := Pure.enc_len5 (v := bs.length) (by omega)
  simp only [encI, litL, List.length_append, Pure.fix_len]
  omega
theorem flatI_len : ∀ (L : List Stp), (∀ s, s ∈ L -> okW s) -> (L.flatMap encI).length <= 11 * L.length + litS L
 | [], _ => by simp [litS]
 | s :: L, h => by
  have h1 := encI_len (h s (List.mem_cons_self ..))
  have h2 := flatI_len L (fun t ht => h t (List.mem_cons_of_mem _ ht))
  rw [List.flatMap_cons, List.length_append, List.length_cons]
  have e : litS (s :: L) = litL s + litS L := by simp [litS]
  rw [e]
  omega
namespace Dlt
def insOf (s : Sig) (t : List UInt8) : List Stp := ins s.width s.size.toNat s.blocks [] t
theorem lenWf (n : Nat) (h : n <= 131072) : (Lit.int .i64 (n : Nat)).wf = true := wf64 (by omega) (by omega)
def baseK (s : Sig) (h : May s) : Wk := ⟨s.length, s.base, s.hb, by
 obtain ⟨n, hn⟩ := Int.eq_ofNat_of_zero_le h.l1
 rw [hn]
 exact lenWf n (by have := h.l2; omega)⟩
def targK (wd : Int) (t : List UInt8) (h : t.length <= 131072) : Wk := ⟨(t.length : Nat), Sha.ident wd t, Sha.ident_len _ _, lenWf _ h⟩
def makeX (s : Sig) (t : List UInt8) : List UInt8 :=
 sealed ([] ++ Pure.fix 68 1 ++ Pure.enc s.width.toNat ++ Pure.enc s.size.toNat ++ ((Pure.enc s.length.toNat ++ s.base.take s.width.toNat) ++ (Pure.enc t.length ++ (Sha.ident s.width t).take s.width.toNat)) ++ Pure.enc (insOf s t).length ++ (insOf s t).flatMap encI)
def makeE (s : Sig) (t : List UInt8) : Int :=
 if may s = false then 180 else if 131072 < t.length then 2 else if 2048 < (insOf s t).length then 183 else if 131072 < (makeX s t).length then 2 else 0
def makeB (s : Sig) (t : List UInt8) : List UInt8 := if makeE s t = 0 then makeX s t else []
end Dlt
theorem Tryz.builtOrd0 (f g : Nat -> UInt8) (a b x y : Int) (ao : Option Addr) (n cap : Nat) (W : World) : (Instr.build 71 #[(0, .int .i64 a), (1, .int .i64 b), (2, .agg (.int .i64 x :: bys ((List.range 32).map f)).toArray), (3, .agg (.int .i64 y :: bys ((List.range 32).map g)).toArray), (4, .slice ao n cap)]).run Tryz.prog W = .ok (.agg (.int .i64 a :: .int .i64 b :: ((.int .i64 x :: bys ((List.range 32).map f)) ++ ((.int .i64 y :: bys ((List.range 32).map g)) ++ [.slice ao n cap]))).toArray) W := by kernel_rfl
theorem Tryz.builtOrd (W Z : Int) (bk tk : Wk) (ao : Option Addr) (n cap : Nat) (X : World) : (Instr.build 71 #[(0, .int .i64 W), (1, .int .i64 Z), (2, .agg bk.cells.toArray), (3, .agg tk.cells.toArray), (4, .slice ao n cap)]).run Tryz.prog X = .ok (.agg (ordC W Z bk tk (.slice ao n cap)).toArray) X := by
 have h := Tryz.builtOrd0 (fun i => bk.id.getD i 0) (fun i => tk.id.getD i 0) W Z bk.sum tk.sum ao n cap X
 rw [range32 bk.hid, range32 tk.hid] at h
 exact h
end

section
open Dlt
namespace Dlt
def insU (wd : Int) (Z : Nat) (L : List Wk) : Nat -> List Stp -> List UInt8 -> List Stp
 | 0, acc, _ => acc
 | k + 1, acc, ys =>
  if ys = [] then acc
  else if ys.drop (nextI wd Z L ys).1 = [] then accL acc ys (nextI wd Z L ys).1
  else insU wd Z L k (accL acc ys (nextI wd Z L ys).1 ++ [.copy (nextI wd Z L ys).2 (cntW wd Z (L.drop (nextI wd Z L ys).2) (ys.drop (nextI wd Z L ys).1))]) ((ys.drop (nextI wd Z L ys).1).drop (cntW wd Z (L.drop (nextI wd Z L ys).2) (ys.drop (nextI wd Z L ys).1) * Z))
theorem accL_ge (acc : List Stp) (ys : List UInt8) (a : Nat) : acc.length <= (accL acc ys a).length := by unfold accL; split <;> simp
theorem insU_ge (wd : Int) (Z : Nat) (L : List Wk) : ∀ (k : Nat) (acc : List Stp) (ys : List UInt8), acc.length <= (insU wd Z L k acc ys).length
 | 0, acc, ys => Nat.le_refl _
 | k + 1, acc, ys => by
  unfold insU
  split
  ·exact Nat.le_refl _
  ·split
   ·exact accL_ge _ _ _
   ·refine Nat.le_trans (Nat.le_trans (accL_ge acc ys (nextI wd Z L ys).1) ?_) (insU_ge wd Z L k _ _)
    simp
theorem insF_U (wd : Int) (Z : Nat) (L : List Wk) : ∀ (k : Nat) (acc : List Stp) (ys : List UInt8), ((insF wd Z L k acc ys).length <= 2048 -> insU wd Z L k acc ys = insF wd Z L k acc ys) ∧ (2048 < (insF wd Z L k acc ys).length -> 2048 < (insU wd Z L k acc ys).length)
 | 0, acc, ys => ⟨fun _ => rfl, fun h => h⟩
 | k + 1, acc, ys => by
  unfold insF
  split
  ·next h =>
   rcases h with h | h
   ·have e : insU wd Z L (k + 1) acc ys = acc := by unfold insU; rw [if_pos h]
    rw [e]
    exact ⟨fun _ => rfl, fun h => h⟩
   ·exact ⟨fun h2 => absurd h2 (by omega), fun _ => Nat.lt_of_lt_of_le h (insU_ge ..)⟩
  ·next h =>
   have h1 : ¬ ys = [] := fun e => h (.inl e)
   unfold insU
   rw [if_neg h1]
   split
   ·exact ⟨fun _ => rfl, fun h => h⟩
   ·exact insF_U wd Z L k _ _
theorem insU_fuel {wd : Int} {Z : Nat} {L : List Wk} (hZ : 1 <= Z) : ∀ (k k' : Nat) (acc : List Stp) (ys : List UInt8), ys.length <= k -> ys.length <= k' -> insU wd Z L k acc ys = insU wd Z L k' acc ys
 | 0, k', acc, ys, h, _ => by
  have : ys = [] := List.length_eq_zero_iff.1 (by omega)
  subst this
  cases k' with
  | zero => rfl
  | succ k' => simp [insU]
 | k + 1, 0, acc, ys, _, h => by
  have : ys = [] := List.length_eq_zero_iff.1 (by omega)
  subst this
  simp [insU]
 | k + 1, k' + 1, acc, ys, h1, h2 => by
  unfold insU
  split
  ·rfl
  ·split
   ·rfl
   ·next h =>
    have := ins_short (L := L) (wd := wd) hZ h
    exact insU_fuel hZ k k' _ _ (by omega) (by omega)
def insV (wd : Int) (Z : Nat) (L : List Wk) (acc : List Stp) (ys : List UInt8) : List Stp := insU wd Z L ys.length acc ys
theorem insV_end {wd : Int} {Z : Nat} {L : List Wk} {acc : List Stp} {ys : List UInt8} (h3 : ys.drop (nextI wd Z L ys).1 = []) : insV wd Z L acc ys = if ys = [] then acc else accL acc ys (nextI wd Z L ys).1 := by
 unfold insV
 cases hk : ys.length with
 | zero =>
  have := List.length_eq_zero_iff.1 hk
  rw [if_pos this]
  rfl
 | succ k =>
  have h : ¬ ys = [] := fun e => by rw [e] at hk; simp at hk
  unfold insU
  rw [if_neg h, if_pos h3, if_neg h]
theorem insV_go {wd : Int} {Z : Nat} {L : List Wk} {acc : List Stp} {ys : List UInt8} (hZ : 1 <= Z) (h3 : ys.drop (nextI wd Z L ys).1 ≠ []) :
  insV wd Z L acc ys = insV wd Z L (accL acc ys (nextI wd Z L ys).1 ++ [.copy (nextI wd Z L ys).2 (cntW wd Z (L.drop (nextI wd Z L ys).2) (ys.drop (nextI wd Z L ys).1))]) ((ys.drop (nextI wd Z L ys).1).drop (cntW wd Z (L.drop (nextI wd Z L ys).2) (ys.drop (nextI wd Z L ys).1) * Z)) := by
 have h : ys ≠ [] := fun e => h3 (by rw [e, List.drop_nil])
 have hs := ins_short (L := L) (wd := wd) hZ h3
 conv => lhs; unfold insV
 cases hk : ys.length with
 | zero => exact absurd (List.length_eq_zero_iff.1 hk) h
 | succ k =>
  conv => lhs; unfold insU
  rw [if_neg h, if_neg h3]
  exact insU_fuel hZ _ _ _ _ (by omega) (Nat.le_refl _)
theorem wat_drop (ys : List UInt8) (Z p j : Nat) : wat (ys.drop p) Z j = wat ys Z (p + j) := by
 unfold wat
 rw [List.drop_drop]
theorem fitI_drop (wd : Int) (Z : Nat) (L : List Wk) (ys : List UInt8) (p j : Nat) : fitI wd Z L (ys.drop p) j = fitI wd Z L ys (p + j) := by
 unfold fitI
 rw [wat_drop]
structure Sto (wd : Int) (Z : Nat) (L : List Wk) (ys : List UInt8) (R acc : List Stp) (p q : Nat) : Prop where
 rest : insV wd Z L acc (ys.drop p) = R
 le : p <= q
 lq : q <= ys.length
 no : ∀ j, p <= j -> j < q -> fitI wd Z L ys j = none
theorem Sto.start (wd : Int) (Z : Nat) (L : List Wk) (ys : List UInt8) : Sto wd Z L ys (insV wd Z L [] ys) [] 0 0 := ⟨rfl, Nat.le_refl _, Nat.zero_le _, fun j _ h => by omega⟩
theorem Sto.skip {wd : Int} {Z : Nat} {L : List Wk} {ys : List UInt8} {R acc : List Stp} {p q : Nat} (h : Sto wd Z L ys R acc p q) (hZ : 1 <= Z) (hq : q + Z <= ys.length) (hf : fitI wd Z L ys q = none) : Sto wd Z L ys R acc p (q + 1) := by
 refine ⟨h.rest, by have := h.le; omega, by omega, fun j h1 h2 => ?_⟩
 by_cases hj : j = q
 ·rw [hj]; exact hf
 ·exact h.no j h1 (by omega)
def accP (acc : List Stp) (ys : List UInt8) (p q : Nat) : List Stp := if p < q then acc ++ [.lit ((ys.drop p).take (q - p))] else acc
theorem Sto.hit {wd : Int} {Z : Nat} {L : List Wk} {ys : List UInt8} {R acc : List Stp} {p q i : Nat} (h : Sto wd Z L ys R acc p q) (hZ : 1 <= Z) (hq : q + Z <= ys.length) (hf : fitI wd Z L ys q = some i) :
  i < L.length ∧ 1 <= cntW wd Z (L.drop i) (ys.drop q) ∧ q + cntW wd Z (L.drop i) (ys.drop q) * Z <= ys.length ∧ Sto wd Z L ys R (accP acc ys p q ++ [.copy i (cntW wd Z (L.drop i) (ys.drop q))]) (q + cntW wd Z (L.drop i) (ys.drop q) * Z) (q + cntW wd Z (L.drop i) (ys.drop q) * Z) := by
 have hle := h.le
 have hn : nextI wd Z L (ys.drop p) = (q - p, i) := by
  refine nextI_some (by rw [List.length_drop]; omega) (fun j hj => ?_) ?_
  ·rw [fitI_drop]; exact h.no _ (by omega) (by omega)
  ·rw [fitI_drop, show p + (q - p) = q by omega]; exact hf
 have hd : (ys.drop p).drop (q - p) = ys.drop q := by rw [List.drop_drop, show p + (q - p) = q by omega]
 have h3 : (ys.drop p).drop (nextI wd Z L (ys.drop p)).1 ≠ [] := by
  rw [hn, hd]
  intro e
  have := congrArg List.length e
  rw [List.length_drop] at this
  simp at this
  omega
 have hlt : (nextI wd Z L (ys.drop p)).1 < (ys.drop p).length := by rw [hn, List.length_drop]; show q - p < _; omega
 obtain ⟨hc1, hc2⟩ := next_cnt (wd := wd) (L := L) hZ hlt
 rw [hn, hd] at hc2
 rw [hn] at hc1
 have hc3 := (cntW_le wd Z (L.drop i) (ys.drop q)).2
 rw [List.length_drop] at hc3
 refine ⟨hc1, hc2, by omega, ⟨?_, Nat.le_refl _, by omega, fun j h1 h2 => by omega⟩⟩
 have hg := insV_go (acc := acc) hZ h3
 rw [hn, hd, List.drop_drop] at hg
 rw [<-h.rest, hg]
 congr 2
 show accP acc ys p q = accL acc (ys.drop p) (q - p)
 unfold accP accL
 by_cases hpq : p < q
 ·rw [if_pos hpq, if_pos (by omega)]
 ·rw [if_neg hpq, if_neg (by omega)]
theorem Sto.done {wd : Int} {Z : Nat} {L : List Wk} {ys : List UInt8} {R acc : List Stp} {p q : Nat} (h : Sto wd Z L ys R acc p q) (hZ : 1 <= Z) (hq : ys.length < q + Z) : accP acc ys p ys.length = R := by
 have hle := h.le
 have hlq := h.lq
 have hn : nextI wd Z L (ys.drop p) = ((ys.drop p).length, 0) := nextI_none (fun k hk => by
  rw [List.length_drop] at hk
  rw [fitI_drop]
  exact h.no _ (by omega) (by omega))
 have h3 : (ys.drop p).drop (nextI wd Z L (ys.drop p)).1 = [] := by rw [hn]; exact List.drop_of_length_le (Nat.le_refl _)
 rw [<-h.rest, insV_end h3, hn]
 unfold accP accL
 rw [List.length_drop]
 by_cases hp : p < ys.length
 ·rw [if_pos hp, if_neg (fun e => by have := congrArg List.length e; rw [List.length_drop] at this; simp at this; omega), if_pos (by omega)]
 ·rw [if_neg hp, if_pos (List.drop_of_length_le (by omega))]
theorem cnt_next {wd : Int} {Z : Nat} {L : List Wk} {ys : List UInt8} {i n q : Nat} (hi : i + n < L.length) (hq : q + Z <= ys.length) (hm : weak wd ((ys.drop q).take Z) = L.getD (i + n) wk0) : cntW wd Z (L.drop (i + n)) (ys.drop q) = cntW wd Z (L.drop (i + (n + 1))) (ys.drop (q + Z)) + 1 := by
 have hd : L.drop (i + n) = L.getD (i + n) wk0 :: L.drop (i + (n + 1)) := by
  rw [List.drop_eq_getElem_cons hi]
  congr 1
  simp [List.getElem?_eq_getElem hi]
 rw [hd]
 conv => lhs; unfold cntW
 rw [if_neg (by rw [List.length_drop]; omega), if_pos (by rw [wkEq_iff]; exact hm), List.drop_drop]
theorem cnt_stop {wd : Int} {Z : Nat} {L : List Wk} {ys : List UInt8} {i n q : Nat} (h : L.length <= i + n ∨ ys.length < q + Z ∨ ¬ weak wd ((ys.drop q).take Z) = L.getD (i + n) wk0) (hq : q <= ys.length) : cntW wd Z (L.drop (i + n)) (ys.drop q) = 0 := by
 by_cases hi : L.length <= i + n
 ·rw [List.drop_of_length_le hi]; rfl
 ·have hd : L.drop (i + n) = L.getD (i + n) wk0 :: L.drop (i + (n + 1)) := by
   rw [List.drop_eq_getElem_cons (by omega)]
   congr 1
   simp [List.getElem?_eq_getElem (show i + n < L.length by omega)]
  rw [hd]
  unfold cntW
  by_cases hz : ys.length < q + Z
  ·rw [if_pos (by rw [List.length_drop]; omega)]
  ·rw [if_neg (by rw [List.length_drop]; omega), if_neg]
   intro hw
   rw [wkEq_iff] at hw
   rcases h with h | h | h
   ·exact hi h
   ·exact hz h
   ·exact h hw
def makeV (s : Sig) (t : List UInt8) : List Stp := insV s.width s.size.toNat s.blocks [] t
theorem makeV_eq (s : Sig) (t : List UInt8) : ((insOf s t).length <= 2048 -> makeV s t = insOf s t) ∧ (2048 < (insOf s t).length -> 2048 < (makeV s t).length) := insF_U s.width s.size.toNat s.blocks t.length [] t
theorem fits_least {L : List Wk} {x : Int} {id : List UInt8} {k : Nat} (hk : k < L.length) (h1 : (L.getD k wk0).sum = x) (h2 : (L.getD k wk0).id = id) (h3 : ∀ j, j < k -> ¬ ((L.getD j wk0).sum = x ∧ (L.getD j wk0).id = id)) : leastI L x id = some k := by
 unfold leastI
 rw [List.find?_range_eq_some]
 refine ⟨by rw [Bool.and_eq_true, beq_iff_eq, beq_iff_eq]; exact ⟨h1, h2⟩, by simpa using hk, fun j hj => ?_⟩
 have := h3 j hj
 rw [Bool.not_eq_true', Bool.eq_false_iff]
 intro h
 rw [Bool.and_eq_true, beq_iff_eq, beq_iff_eq] at h
 exact this h
theorem fits_no {L : List Wk} {x : Int} {id : List UInt8} (h3 : ∀ j, j < L.length -> ¬ ((L.getD j wk0).sum = x ∧ (L.getD j wk0).id = id)) : leastI L x id = none := by
 unfold leastI
 rw [List.find?_eq_none]
 intro j hj
 have := h3 j (by simpa using hj)
 intro h
 rw [Bool.and_eq_true, beq_iff_eq, beq_iff_eq] at h
 exact this h
end Dlt
end

end Go.Proofs.YtmklodligplbaaaGreat
