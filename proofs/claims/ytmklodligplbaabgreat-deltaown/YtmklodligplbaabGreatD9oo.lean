import Derived.Test.YtmklodligplbaabGreatD9fo
open Go.RowKit
set_option linter.unusedVariables false
set_option linter.unusedSimpArgs false
set_option maxRecDepth 100000
set_option maxHeartbeats 0
namespace Go.Proofs.YtmklodligplbaabGreat
section
open Dlt
theorem Tryz.zeroOrd (W : World) : (zeroValue 74).run Tryz.prog W = .ok (.agg (ordC 0 0 wk0 wk0 (.slice none 0 0)).toArray) W := by kernel_rfl
theorem Tryz.infoOrdS : (Tryz.prog.info? 74).map (·.size) = some 69 := by kernel_rfl
theorem ordC_size (W Z : Int) (bk tk : Wk) (v : Value) : (ordC W Z bk tk v).toArray.size = 69 := by rw [List.size_toArray, ordC_len]
theorem OrdAt.fr {w : World} {G : Nat} {W Z : Int} {bk tk : Wk} {v : Value} (h : OrdAt w G W Z bk tk v) (i : Nat) : w.frozen? ⟨G, i, none⟩ = false := frozen_of_row _ _ _ _ _ h.row
theorem OrdAt.lt {w : World} {G : Nat} {W Z : Int} {bk tk : Wk} {v : Value} (h : OrdAt w G W Z bk tk v) : G < w.heap.size := (gs h.row).1
theorem OrdAt.setW {w : World} {G : Nat} {W Z : Int} {bk tk : Wk} {v : Value} (h : OrdAt w G W Z bk tk v) (x : Int) : OrdAt (w.setCell ⟨G, 0, none⟩ (.int .i64 x)) G x Z bk tk v := ⟨by rw [heap_setCell_same w _ 0 _ _ _ h.row]; rfl⟩
theorem OrdAt.setZ {w : World} {G : Nat} {W Z : Int} {bk tk : Wk} {v : Value} (h : OrdAt w G W Z bk tk v) (x : Int) : OrdAt (w.setCell ⟨G, 1, none⟩ (.int .i64 x)) G W x bk tk v := ⟨by rw [heap_setCell_same w _ 1 _ _ _ h.row]; rfl⟩
theorem OrdAt.setV {w : World} {G : Nat} {W Z : Int} {bk tk : Wk} {v : Value} (h : OrdAt w G W Z bk tk v) (u : Value) : OrdAt (w.setCell ⟨G, 68, none⟩ u) G W Z bk tk u := by
 refine ⟨?_⟩
 rw [heap_setCell_same w _ 68 _ _ _ h.row]
 congr 2
 apply Array.ext'
 simp only [Array.toList_setIfInBounds, List.toList_toArray]
 unfold ordC
 rw [List.set_cons_succ, List.set_cons_succ, List.set_append_right _ _ (by rw [bk.len]; omega), bk.len, List.set_append_right _ _ (by rw [tk.len]; omega), tk.len]
 rfl
theorem OrdAt.there_b {w : World} {G : Nat} {W Z : Int} {bk tk : Wk} {v : Value} (h : OrdAt w G W Z bk tk v) : w.there G 2 33 := there_row h.row _ _ (by rw [ordC_size]; omega)
theorem OrdAt.there_t {w : World} {G : Nat} {W Z : Int} {bk tk : Wk} {v : Value} (h : OrdAt w G W Z bk tk v) : w.there G 35 33 := there_row h.row _ _ (by rw [ordC_size]; omega)
theorem OrdAt.setB {w : World} {G : Nat} {W Z : Int} {bk tk : Wk} {v : Value} (h : OrdAt w G W Z bk tk v) (e : Wk) : OrdAt (w.setCells G 2 e.cells) G W Z e tk v := by
 refine ⟨?_⟩
 rw [setCells_row _ _ _ _ _ _ h.row (by rw [e.len, ordC_len]; omega), setRow_heap _ _ _ _ _ _ h.row, e.len]
 congr 3
 unfold ordC
 show [.int .i64 W, .int .i64 Z] ++ (e.cells ++ (bk.cells ++ (tk.cells ++ [v])).drop 33) = _
 rw [List.drop_append, List.drop_of_length_le (by rw [bk.len]; exact Nat.le_refl _), bk.len]
 rfl
theorem OrdAt.setT {w : World} {G : Nat} {W Z : Int} {bk tk : Wk} {v : Value} (h : OrdAt w G W Z bk tk v) (e : Wk) : OrdAt (w.setCells G 35 e.cells) G W Z bk e v := by
 refine ⟨?_⟩
 rw [setCells_row _ _ _ _ _ _ h.row (by rw [e.len, ordC_len]; omega), setRow_heap _ _ _ _ _ _ h.row, e.len]
 congr 3
 have l1 : ([Value.int .i64 W, Value.int .i64 Z] ++ bk.cells).length = 35 := by rw [List.length_append, bk.len]; rfl
 have e1 : ordC W Z bk tk v = ([.int .i64 W, .int .i64 Z] ++ bk.cells) ++ (tk.cells ++ [v]) := by simp [ordC]
 have e2 : ordC W Z bk e v = ([.int .i64 W, .int .i64 Z] ++ bk.cells) ++ (e.cells ++ [v]) := by simp [ordC]
 rw [e1, e2, List.take_append_of_le_length (by omega), List.take_of_length_le (by omega), List.drop_append, List.drop_of_length_le (by omega), List.nil_append, l1, show 35 + 33 - 35 = 33 by omega, List.drop_append, List.drop_of_length_le (by rw [tk.len]; omega), List.nil_append, tk.len]
 simp
structure Lst (wr : World) (gL c : Nat) (vals : List Value) : Prop where
 row : wr.heap[gL]? = some (.cells (vals ++ List.replicate (c - vals.length) Value.nilIface).toArray 129 (0, 0))
 le : vals.length <= c
theorem Lst.kept {l : List Nat} {w1 w2 : World} {gL c : Nat} {vals : List Value} (h : Lst w1 gL c vals) (hk : Kept l w1 w2) (hn : gL ∉ l) : Lst w2 gL c vals := ⟨(hk.block gL (gs h.row).1 hn).trans h.row, h.le⟩
theorem Lst.cell {w : World} {gL c : Nat} {vals : List Value} (h : Lst w gL c vals) {i : Nat} {u : Value} (hu : vals[i]? = some u) : w.cell? ⟨gL, i, none⟩ = some u := by
 rw [cell_of_row _ _ _ _ _ _ h.row, List.getElem?_toArray, List.getElem?_append_left (List.getElem?_eq_some_iff.1 hu).1]
 exact hu
theorem Lst.next {w : World} {gL c : Nat} {vals : List Value} (h : Lst w gL c vals) (hl : vals.length < c) : w.cell? ⟨gL, vals.length, none⟩ = some .nilIface ∧ w.frozen? ⟨gL, vals.length, none⟩ = false := by
 refine ⟨?_, frozen_of_row _ _ _ _ _ h.row⟩
 rw [cell_of_row _ _ _ _ _ _ h.row, List.getElem?_toArray, List.getElem?_append_right (Nat.le_refl _), Nat.sub_self, List.getElem?_replicate, if_pos (by omega)]
theorem Lst.put {w : World} {gL c : Nat} {vals : List Value} (h : Lst w gL c vals) (hl : vals.length < c) (u : Value) : Lst (w.setCell ⟨gL, vals.length, none⟩ u) gL c (vals ++ [u]) := by
 refine ⟨?_, by rw [List.length_append, List.length_singleton]; omega⟩
 rw [heap_setCell_same w _ _ _ _ _ h.row]
 congr 2
 apply Array.ext'
 simp only [Array.toList_setIfInBounds, List.toList_toArray]
 rw [List.set_append_right _ _ (Nat.le_refl _), Nat.sub_self, List.length_append, List.length_singleton, show c - vals.length = (c - (vals.length + 1)) + 1 by omega, List.replicate_succ, List.set_cons_zero]
 simp
theorem run_makeI9 (w : World) (c : Nat) (h : c <= 1000000) : (Instr.makeSlice 67 (.int .i64 c) (.int .i64 c)).run Tryz.prog w = .ok (.slice (some ⟨w.heap.size, 0, none⟩) c c) (w.alloc (.cells (List.replicate c Value.nilIface).toArray 129)) := by
 obtain ⟨i0, hi, hz0, hz1, hz2⟩ := info_parts Tryz.infoIns8
 have hmk := run_make (P := Tryz.prog) w 67 129 i0 .nilIface Tryz.underlying67 hi hz0 .i64 .i64 c c (by omega) (by omega) (by rw [hz2]; omega) (by omega)
 rw [hz1] at hmk
 have e : madeCells (Value.nilIface).cells (c * 1) = (List.replicate c Value.nilIface).toArray := by
  apply Array.ext
  ·simp [size_madeCells]
  ·intro i h1 h2
   simp [madeCells, Value.cells, Nat.mod_one]
 simp only [Int.toNat_natCast, e] at hmk
 exact hmk
theorem Lst.new (w : World) (c : Nat) : Lst (w.alloc (.cells (List.replicate c Value.nilIface).toArray 129)) w.heap.size c [] := ⟨heap_new w _, Nat.zero_le _⟩
end

section
open Dlt
theorem Tryz.underSeal : Tryz.prog.underlying 71 = some (.struct (Tryz.prog.fieldsOf 71)) := by kernel_rfl
theorem Tryz.eqlSeal (A B : Wk) (W : World) : (Op.equalIn 10000 71 (.agg A.cells.toArray) (.agg B.cells.toArray)).run Tryz.prog W = .ok (wkEq A B) W := by
 rw [run_equalIn_struct (P := Tryz.prog) W 9999 71 _ _ Tryz.underSeal (by kernel_rfl)]
 simp (config := { decide := true }) only [Program.fieldsOf, Tryz.underlying71, Op.eqFields, Sem.run_bind, Sem.run_ite, ne_eq, not_false_eq_true, if_true, Tryz.partSum, Tryz.partWid, Result.andThen_ok, run_equalIn_int W 9998 3 .i64 .i64 _ _ Tryz.underlying3, Tryz.equalID 9997 A.id B.id A.hid B.hid]
 have e2 : (A.sum == B.sum) = decide (A.sum = B.sum) := by rw [Bool.eq_iff_iff]; simp
 rw [e2]
 unfold wkEq
 cases decide (A.sum = B.sum) <;> cases decide (A.id = B.id) <;> simp
end

section
open Dlt
theorem sealK (xs : List UInt8) (s : Rs) (W : Nat) (h : Dlt.within (stNumber xs s).1 0 131072 = true) : ∃ k : Wk, k.sum = (stNumber xs s).1 ∧ k.id = pad (stRaw xs (stNumber xs s).2 W).1 := by
 obtain ⟨h1, h2⟩ := Dlt.within_iff.1 h
 exact ⟨⟨(stNumber xs s).1, pad (stRaw xs (stNumber xs s).2 W).1, pad_len _, wf64 (by omega) (by omega)⟩, rfl, rfl⟩
theorem readOrd_long (ao : Option Addr) (n cap : Nat) (w : World) (hn : 131072 < n) :
  Calls Tryz.prog 49 #[.slice ao n cap] w fun e w' => e = gaveUp8 ∧ Kept [] w w' := by
 have hz := Tryz.zeroOrd
 have hK := ka w (.cells (ordC 0 0 wk0 wk0 (.slice none 0 0)).toArray 74)
 have hop := open_long ao n cap 68 (w.alloc (.cells (ordC 0 0 wk0 wk0 (.slice none 0 0)).toArray 74)) hn
 clear hn
 go_enter Tryz.func49, Tryz.ntmps49
 go_wp2_with (go_at_call 86; refine hop.mono ?_; rintro r w2 ⟨rfl, hk2⟩; have H2 := hide hk2; clear hop hk2)
 exact ⟨rfl, rfl, hK.tr H2.out⟩
theorem readOrd_mark (ao : Option Addr) (n cap : Nat) (xs : List UInt8) (w : World) (hn : xs.length = n) (hm : n <= 131072) (hs : Sl w ao xs) (h0 : ao = none -> xs = [] ∧ cap = 0) (hmk : mk xs ≠ 68) :
  Calls Tryz.prog 49 #[.slice ao n cap] w fun e w' => e = gaveUp8 ∧ Kept [] w w' := by
 have hz := Tryz.zeroOrd
 have hK := ka w (.cells (ordC 0 0 wk0 wk0 (.slice none 0 0)).toArray 74)
 have hop := open_no ao n cap 68 xs (w.alloc (.cells (ordC 0 0 wk0 wk0 (.slice none 0 0)).toArray 74)) hn hm (hs.kept hK (by simp)) h0 hmk
 clear hn hs h0 hmk
 go_enter Tryz.func49, Tryz.ntmps49
 go_wp2_with (go_at_call 86; refine hop.mono ?_; rintro r w2 ⟨rfl, hk2⟩; have H2 := hide hk2; clear hop hk2)
 exact ⟨rfl, rfl, hK.tr H2.out⟩
theorem readOrd_width (ao : Option Addr) (n cap : Nat) (xs : List UInt8) (w : World) (hn : xs.length = n) (hc : n <= cap) (hm : n <= 131072) (hs : Sl w ao xs) (h0 : ao = none -> xs = [] ∧ cap = 0) (hmk : mk xs = 68) (hW : Dlt.isW (stNumber xs (s1 xs)).1 = false) :
  Calls Tryz.prog 49 #[.slice ao n cap] w fun e w' => e = gaveUp8 ∧ Kept [] w w' := by
 have hz := Tryz.zeroOrd
 have hzs := Tryz.zeroStrict
 have hK := ka w (.cells (ordC 0 0 wk0 wk0 (.slice none 0 0)).toArray 74)
 have hR0 := heap_new w (.cells (ordC 0 0 wk0 wk0 (.slice none 0 0)).toArray 74)
 have hop := open_yes ao n cap 68 xs (w.alloc (.cells (ordC 0 0 wk0 wk0 (.slice none 0 0)).toArray 74)) hn hm (hs.kept hK (by simp)) h0 hmk
 have HD := hide (ai hn (ai hc (ai hm hs)))
 have HK := hide hK
 clear hn hc hs h0 hmk hK
 obtain ⟨R, hR⟩ := nm (w.heap.size)
 rw [hR] at hR0
 go_enter Tryz.func49, Tryz.ntmps49
 go_upto_region 1 with (fail)
 have HRW := hide hR
 clear hR
 generalize w.alloc (.cells (ordC 0 0 wk0 wk0 (.slice none 0 0)).toArray 74) = w1 at *
 go_upto_region 2 with (go_at_call 86; refine hop.mono ?_; rintro r w2 ⟨b, ao', cap', rfl, hb, hbl, hrd, hk2⟩; have H2 := hide (ai hb (ai hbl (ai hrd hk2))); clear hop hb hbl hrd hk2)
 have hX := Sx.new w2 b
 have hk3 := ka w2 (.cells (stC b).toArray 145)
 obtain ⟨G, hG⟩ := nm (w2.heap.size)
 have hGb : b < G := by rw [<-hG]; exact H2.out.2.2.1.lt
 rw [hG] at hX ⊢
 have HGN := hide (show G = w2.heap.size from hG.symm)
 clear hG
 generalize w2.alloc (.cells (stC b).toArray 145) = w3 at hX hk3 ⊢
 have hA := OrdAt.new w3 0 0 wk0 wk0 (.slice none 0 0)
 have hk4 := ka w3 (.cells (ordC 0 0 wk0 wk0 (.slice none 0 0)).toArray 74)
 obtain ⟨Sg, hSg⟩ := nm (w3.heap.size)
 have hSG : G < Sg := by rw [<-hSg]; exact hX.lt
 rw [hSg] at hA
 go_upto_region 3 with (fail)
 have HSN := hide (show Sg = w3.heap.size from hSg.symm)
 clear hSg
 have hA : OrdAt (w3.alloc (.cells (ordC 0 0 wk0 wk0 (.slice none 0 0)).toArray 74)) Sg 0 0 wk0 wk0 (.slice none 0 0) := hA
 generalize w3.alloc (.cells (ordC 0 0 wk0 wk0 (.slice none 0 0)).toArray 74) = w4 at *
 have HX := hide (hX.kept hk4 (by simp))
 have HR4 := hide ((H2.out.2.2.1.later hk3).later hk4)
 have HK4 := hide (((HK.out.tr H2.out.2.2.2).tr hk3).tr hk4)
 have HOUT : Hid (w4.heap[R]? = some (.cells (ordC 0 0 wk0 wk0 (.slice none 0 0)).toArray 74 (0, 0))) := by
  have hl := (gs hR0).1
  show _ = _
  rw [hk4.block R (Nat.lt_of_lt_of_le hl (Nat.le_trans H2.out.2.2.2.size hk3.size)) (by simp), hk3.block R (Nat.lt_of_lt_of_le hl H2.out.2.2.2.size) (by simp), H2.out.2.2.2.block R hl (by simp)]
  exact hR0
 have HBL : Hid (w.heap.size <= b ∧ R < b ∧ b < G ∧ G < Sg ∧ Sg < w4.heap.size ∧ ∀ a, ao' = some a -> R < a.block ∧ (xs ≠ [] -> a.block < G)) := by
  have h1 := (gs hR0).1
  have h2 := H2.out.1
  have h3 := HK.out.size
  have h4 := HGN.out
  refine ⟨by omega, by omega, hGb, hSG, hA.lt, fun a ha => ⟨by have := H2.out.2.1 a ha; omega, fun hx => ?_⟩⟩
  have := H2.out.2.2.1.blk hx a ha
  omega
 have HA := hide hA
 have cb := HX.out.cell
 have HNB : Hid (G ∉ [b]) := by have := HBL.out; show G ∉ [b]; simp; omega
 have HNS : Hid (G ∉ [b, Sg]) := by have := HBL.out; show G ∉ [b, Sg]; simp; omega
 have HSB : Hid (Sg ∉ [b]) := by have := HBL.out; show Sg ∉ [b]; simp; omega
 clear hX hk3 hk4 hA H2 HK hR0 hSG hGb hz hzs
 have k0 : Kept [] w4 (World.drew w4) := (Kept.refl [] w4).drew
 refine wp_region_held_drew (S := fun w' => Kept [b, Sg] w4 w') (by kernel_rfl) ((Kept.refl [b, Sg] w4).drew) (fun h0 => ?_)
 generalize World.drew w4 = v0 at h0 k0 ⊢
 refine t4 0 (stV b) rfl (yieldsIf_load_mid (by rfl) _ _ rfl G 0 rfl (stC b) _ (fun W h => (HX.out.kept h HNS.out).range) Tryz.underlying145 rfl Tryz.infoStrict) h0 ?_
 simp only [zz]
 refine t4 2 (stV b) rfl (yieldsIf_load_mid (by rfl) _ _ rfl G 0 rfl (stC b) _ (fun W h => (HX.out.kept h HNS.out).range) Tryz.underlying145 rfl Tryz.infoStrict) h0 ?_
 simp only [zz]
 have hr0 := HR4.out.later k0
 have kk0 : Kept [b] w4 v0 := k0.mono (by simp)
 clear k0
 refine rd 1 fun K hK => ?_
 go_simp
 refine (width_no hr0 hW).mono ?_
 rintro e vx ⟨rfl, hq⟩
 exact ⟨rfl, rfl, HK4.out.trans (h0.tr hq) (fun i hi hl => by simp only [List.mem_cons, List.not_mem_nil, or_false] at hi; have := HBL.out; omega)⟩
theorem readOrd_size (ao : Option Addr) (n cap : Nat) (xs : List UInt8) (w : World) (hn : xs.length = n) (hc : n <= cap) (hm : n <= 131072) (hs : Sl w ao xs) (h0 : ao = none -> xs = [] ∧ cap = 0) (hmk : mk xs = 68) (hW : Dlt.isW (stNumber xs (s1 xs)).1 = true) (hZ : Dlt.isZ (stNumber xs (stNumber xs (s1 xs)).2).1 = false) :
  Calls Tryz.prog 49 #[.slice ao n cap] w fun e w' => e = gaveUp8 ∧ Kept [] w w' := by
 have hz := Tryz.zeroOrd
 have hzs := Tryz.zeroStrict
 have hK := ka w (.cells (ordC 0 0 wk0 wk0 (.slice none 0 0)).toArray 74)
 have hR0 := heap_new w (.cells (ordC 0 0 wk0 wk0 (.slice none 0 0)).toArray 74)
 have hop := open_yes ao n cap 68 xs (w.alloc (.cells (ordC 0 0 wk0 wk0 (.slice none 0 0)).toArray 74)) hn hm (hs.kept hK (by simp)) h0 hmk
 have HD := hide (ai hn (ai hc (ai hm hs)))
 have HK := hide hK
 clear hn hc hs h0 hmk hK
 obtain ⟨R, hR⟩ := nm (w.heap.size)
 rw [hR] at hR0
 go_enter Tryz.func49, Tryz.ntmps49
 go_upto_region 1 with (fail)
 have HRW := hide hR
 clear hR
 generalize w.alloc (.cells (ordC 0 0 wk0 wk0 (.slice none 0 0)).toArray 74) = w1 at *
 go_upto_region 2 with (go_at_call 86; refine hop.mono ?_; rintro r w2 ⟨b, ao', cap', rfl, hb, hbl, hrd, hk2⟩; have H2 := hide (ai hb (ai hbl (ai hrd hk2))); clear hop hb hbl hrd hk2)
 have hX := Sx.new w2 b
 have hk3 := ka w2 (.cells (stC b).toArray 145)
 obtain ⟨G, hG⟩ := nm (w2.heap.size)
 have hGb : b < G := by rw [<-hG]; exact H2.out.2.2.1.lt
 rw [hG] at hX ⊢
 have HGN := hide (show G = w2.heap.size from hG.symm)
 clear hG
 generalize w2.alloc (.cells (stC b).toArray 145) = w3 at hX hk3 ⊢
 have hA := OrdAt.new w3 0 0 wk0 wk0 (.slice none 0 0)
 have hk4 := ka w3 (.cells (ordC 0 0 wk0 wk0 (.slice none 0 0)).toArray 74)
 obtain ⟨Sg, hSg⟩ := nm (w3.heap.size)
 have hSG : G < Sg := by rw [<-hSg]; exact hX.lt
 rw [hSg] at hA
 go_upto_region 3 with (fail)
 have HSN := hide (show Sg = w3.heap.size from hSg.symm)
 clear hSg
 have hA : OrdAt (w3.alloc (.cells (ordC 0 0 wk0 wk0 (.slice none 0 0)).toArray 74)) Sg 0 0 wk0 wk0 (.slice none 0 0) := hA
 generalize w3.alloc (.cells (ordC 0 0 wk0 wk0 (.slice none 0 0)).toArray 74) = w4 at *
 have HX := hide (hX.kept hk4 (by simp))
 have HR4 := hide ((H2.out.2.2.1.later hk3).later hk4)
 have HK4 := hide (((HK.out.tr H2.out.2.2.2).tr hk3).tr hk4)
 have HOUT : Hid (w4.heap[R]? = some (.cells (ordC 0 0 wk0 wk0 (.slice none 0 0)).toArray 74 (0, 0))) := by
  have hl := (gs hR0).1
  show _ = _
  rw [hk4.block R (Nat.lt_of_lt_of_le hl (Nat.le_trans H2.out.2.2.2.size hk3.size)) (by simp), hk3.block R (Nat.lt_of_lt_of_le hl H2.out.2.2.2.size) (by simp), H2.out.2.2.2.block R hl (by simp)]
  exact hR0
 have HBL : Hid (w.heap.size <= b ∧ R < b ∧ b < G ∧ G < Sg ∧ Sg < w4.heap.size ∧ ∀ a, ao' = some a -> R < a.block ∧ (xs ≠ [] -> a.block < G)) := by
  have h1 := (gs hR0).1
  have h2 := H2.out.1
  have h3 := HK.out.size
  have h4 := HGN.out
  refine ⟨by omega, by omega, hGb, hSG, hA.lt, fun a ha => ⟨by have := H2.out.2.1 a ha; omega, fun hx => ?_⟩⟩
  have := H2.out.2.2.1.blk hx a ha
  omega
 have HA := hide hA
 have cb := HX.out.cell
 have HNB : Hid (G ∉ [b]) := by have := HBL.out; show G ∉ [b]; simp; omega
 have HNS : Hid (G ∉ [b, Sg]) := by have := HBL.out; show G ∉ [b, Sg]; simp; omega
 have HSB : Hid (Sg ∉ [b]) := by have := HBL.out; show Sg ∉ [b]; simp; omega
 clear hX hk3 hk4 hA H2 HK hR0 hSG hGb hz hzs
 have k0 : Kept [] w4 (World.drew w4) := (Kept.refl [] w4).drew
 refine wp_region_held_drew (S := fun w' => Kept [b, Sg] w4 w') (by kernel_rfl) ((Kept.refl [b, Sg] w4).drew) (fun h0 => ?_)
 generalize World.drew w4 = v0 at h0 k0 ⊢
 refine t4 0 (stV b) rfl (yieldsIf_load_mid (by rfl) _ _ rfl G 0 rfl (stC b) _ (fun W h => (HX.out.kept h HNS.out).range) Tryz.underlying145 rfl Tryz.infoStrict) h0 ?_
 simp only [zz]
 refine t4 2 (stV b) rfl (yieldsIf_load_mid (by rfl) _ _ rfl G 0 rfl (stC b) _ (fun W h => (HX.out.kept h HNS.out).range) Tryz.underlying145 rfl Tryz.infoStrict) h0 ?_
 simp only [zz]
 have hr0 := HR4.out.later k0
 have kk0 : Kept [b] w4 v0 := k0.mono (by simp)
 clear k0
 refine rd 1 fun K hK => ?_
 go_simp
 refine (width_yes hr0 hW).mono ?_
 rintro e v1 ⟨rfl, hr1, hq⟩
 have kk1 := kk0.tr hq
 refine hK.out _ _ (h0.tr hq) (fun h1 => ?_)
 clear hK K
 try simp only [zz]
 clear hq hr0 kk0 h0
 refine t1 4 (.pointer (some ⟨Sg, 0, none⟩)) h1 ?_
 simp only [zz]
 refine rd 3 fun K hK => ?_
 go_simp
 refine (size_no hr1 hZ).mono ?_
 rintro e vx ⟨rfl, hq⟩
 exact ⟨rfl, rfl, HK4.out.trans (h1.tr hq) (fun i hi hl => by simp only [List.mem_cons, List.not_mem_nil, or_false] at hi; have := HBL.out; omega)⟩
theorem readOrd_base (ao : Option Addr) (n cap : Nat) (xs : List UInt8) (w : World) (hn : xs.length = n) (hc : n <= cap) (hm : n <= 131072) (hs : Sl w ao xs) (h0 : ao = none -> xs = [] ∧ cap = 0) (hmk : mk xs = 68) (hW : Dlt.isW (stNumber xs (s1 xs)).1 = true) (hZ : Dlt.isZ (stNumber xs (stNumber xs (s1 xs)).2).1 = true) (hB : Dlt.within (stNumber xs (stNumber xs (stNumber xs (s1 xs)).2).2).1 0 131072 = false) :
  Calls Tryz.prog 49 #[.slice ao n cap] w fun e w' => e = gaveUp8 ∧ Kept [] w w' := by
 have hz := Tryz.zeroOrd
 have hzs := Tryz.zeroStrict
 have hK := ka w (.cells (ordC 0 0 wk0 wk0 (.slice none 0 0)).toArray 74)
 have hR0 := heap_new w (.cells (ordC 0 0 wk0 wk0 (.slice none 0 0)).toArray 74)
 have hop := open_yes ao n cap 68 xs (w.alloc (.cells (ordC 0 0 wk0 wk0 (.slice none 0 0)).toArray 74)) hn hm (hs.kept hK (by simp)) h0 hmk
 have HD := hide (ai hn (ai hc (ai hm hs)))
 have HK := hide hK
 clear hn hc hs h0 hmk hK
 obtain ⟨R, hR⟩ := nm (w.heap.size)
 rw [hR] at hR0
 go_enter Tryz.func49, Tryz.ntmps49
 go_upto_region 1 with (fail)
 have HRW := hide hR
 clear hR
 generalize w.alloc (.cells (ordC 0 0 wk0 wk0 (.slice none 0 0)).toArray 74) = w1 at *
 go_upto_region 2 with (go_at_call 86; refine hop.mono ?_; rintro r w2 ⟨b, ao', cap', rfl, hb, hbl, hrd, hk2⟩; have H2 := hide (ai hb (ai hbl (ai hrd hk2))); clear hop hb hbl hrd hk2)
 have hX := Sx.new w2 b
 have hk3 := ka w2 (.cells (stC b).toArray 145)
 obtain ⟨G, hG⟩ := nm (w2.heap.size)
 have hGb : b < G := by rw [<-hG]; exact H2.out.2.2.1.lt
 rw [hG] at hX ⊢
 have HGN := hide (show G = w2.heap.size from hG.symm)
 clear hG
 generalize w2.alloc (.cells (stC b).toArray 145) = w3 at hX hk3 ⊢
 have hA := OrdAt.new w3 0 0 wk0 wk0 (.slice none 0 0)
 have hk4 := ka w3 (.cells (ordC 0 0 wk0 wk0 (.slice none 0 0)).toArray 74)
 obtain ⟨Sg, hSg⟩ := nm (w3.heap.size)
 have hSG : G < Sg := by rw [<-hSg]; exact hX.lt
 rw [hSg] at hA
 go_upto_region 3 with (fail)
 have HSN := hide (show Sg = w3.heap.size from hSg.symm)
 clear hSg
 have hA : OrdAt (w3.alloc (.cells (ordC 0 0 wk0 wk0 (.slice none 0 0)).toArray 74)) Sg 0 0 wk0 wk0 (.slice none 0 0) := hA
 generalize w3.alloc (.cells (ordC 0 0 wk0 wk0 (.slice none 0 0)).toArray 74) = w4 at *
 have HX := hide (hX.kept hk4 (by simp))
 have HR4 := hide ((H2.out.2.2.1.later hk3).later hk4)
 have HK4 := hide (((HK.out.tr H2.out.2.2.2).tr hk3).tr hk4)
 have HOUT : Hid (w4.heap[R]? = some (.cells (ordC 0 0 wk0 wk0 (.slice none 0 0)).toArray 74 (0, 0))) := by
  have hl := (gs hR0).1
  show _ = _
  rw [hk4.block R (Nat.lt_of_lt_of_le hl (Nat.le_trans H2.out.2.2.2.size hk3.size)) (by simp), hk3.block R (Nat.lt_of_lt_of_le hl H2.out.2.2.2.size) (by simp), H2.out.2.2.2.block R hl (by simp)]
  exact hR0
 have HBL : Hid (w.heap.size <= b ∧ R < b ∧ b < G ∧ G < Sg ∧ Sg < w4.heap.size ∧ ∀ a, ao' = some a -> R < a.block ∧ (xs ≠ [] -> a.block < G)) := by
  have h1 := (gs hR0).1
  have h2 := H2.out.1
  have h3 := HK.out.size
  have h4 := HGN.out
  refine ⟨by omega, by omega, hGb, hSG, hA.lt, fun a ha => ⟨by have := H2.out.2.1 a ha; omega, fun hx => ?_⟩⟩
  have := H2.out.2.2.1.blk hx a ha
  omega
 have HA := hide hA
 have cb := HX.out.cell
 have HNB : Hid (G ∉ [b]) := by have := HBL.out; show G ∉ [b]; simp; omega
 have HNS : Hid (G ∉ [b, Sg]) := by have := HBL.out; show G ∉ [b, Sg]; simp; omega
 have HSB : Hid (Sg ∉ [b]) := by have := HBL.out; show Sg ∉ [b]; simp; omega
 clear hX hk3 hk4 hA H2 HK hR0 hSG hGb hz hzs
 have k0 : Kept [] w4 (World.drew w4) := (Kept.refl [] w4).drew
 refine wp_region_held_drew (S := fun w' => Kept [b, Sg] w4 w') (by kernel_rfl) ((Kept.refl [b, Sg] w4).drew) (fun h0 => ?_)
 generalize World.drew w4 = v0 at h0 k0 ⊢
 refine t4 0 (stV b) rfl (yieldsIf_load_mid (by rfl) _ _ rfl G 0 rfl (stC b) _ (fun W h => (HX.out.kept h HNS.out).range) Tryz.underlying145 rfl Tryz.infoStrict) h0 ?_
 simp only [zz]
 refine t4 2 (stV b) rfl (yieldsIf_load_mid (by rfl) _ _ rfl G 0 rfl (stC b) _ (fun W h => (HX.out.kept h HNS.out).range) Tryz.underlying145 rfl Tryz.infoStrict) h0 ?_
 simp only [zz]
 have hr0 := HR4.out.later k0
 have kk0 : Kept [b] w4 v0 := k0.mono (by simp)
 clear k0
 refine rd 1 fun K hK => ?_
 go_simp
 refine (width_yes hr0 hW).mono ?_
 rintro e v1 ⟨rfl, hr1, hq⟩
 have kk1 := kk0.tr hq
 refine hK.out _ _ (h0.tr hq) (fun h1 => ?_)
 clear hK K
 try simp only [zz]
 clear hq hr0 kk0 h0
 refine t1 4 (.pointer (some ⟨Sg, 0, none⟩)) h1 ?_
 simp only [zz]
 refine rd 3 fun K hK => ?_
 go_simp
 refine (size_yes hr1 hZ).mono ?_
 rintro e v2 ⟨rfl, hr2, hq⟩
 have kk2 := kk1.tr hq
 refine hK.out _ _ (h1.tr hq) (fun h2 => ?_)
 clear hK K
 try simp only [zz]
 clear hq hr1 kk1 h1
 have hA2 := HA.out.kept kk2 HSB.out
 have f0 := hA2.fr 0
 have c0 := hA2.c (j := 0) (u := .int .i64 0) rfl
 have hA3 := hA2.setW (nW xs)
 have f1 := hA3.fr 1
 have c1 := hA3.c (j := 1) (u := .int .i64 0) rfl
 have hA4 := hA3.setZ (nZ xs)
 simp only [show (stNumber xs (s1 xs)).1 = nW xs from rfl, show (stNumber xs (stNumber xs (s1 xs)).2).1 = nZ xs from rfl]
 refine rd 5 fun K hK => ?_
 go_simp
 refine hK.out _ _ (h2.setCell (by simp) _) (fun h3 => ?_)
 clear hK K h2
 try simp only [zz]
 refine t1 6 (.pointer (some ⟨Sg, 1, none⟩)) h3 ?_
 simp only [zz]
 refine rd 7 fun K hK => ?_
 go_simp
 refine hK.out _ _ (h3.setCell (by simp) _) (fun h4 => ?_)
 clear hK K h3
 try simp only [zz]
 refine qd ?_
 have k6 : Kept [Sg] v2 ((v2.setCell ⟨Sg, 0, none⟩ (.int .i64 (nW xs))).setCell ⟨Sg, 1, none⟩ (.int .i64 (nZ xs))) := ((Kept.refl [Sg] v2).setCell (by simp) _).setCell (by simp) _
 have HR5 : Hid (RdS ((v2.setCell ⟨Sg, 0, none⟩ (.int .i64 (nW xs))).setCell ⟨Sg, 1, none⟩ (.int .i64 (nZ xs))) b ao' cap' xs (stNumber xs (stNumber xs (s1 xs)).2).2) := hr2.kept k6 (by have := HBL.out; simp; omega) (fun hx a ha => by have h1 := HBL.out.2.2.2.2.2 a ha; have h2 := HBL.out; have := h1.2 hx; simp; omega)
 have HK5 : Hid (Kept [b, Sg] w4 ((v2.setCell ⟨Sg, 0, none⟩ (.int .i64 (nW xs))).setCell ⟨Sg, 1, none⟩ (.int .i64 (nZ xs)))) := (kk2.mono (by simp)).tr k6
 have HA5 := hide hA4
 clear k6 hr2 kk2 hA2 hA3 hA4 f0 f1 c0 c1 HA HR4
 generalize (v2.setCell ⟨Sg, 0, none⟩ (.int .i64 (nW xs))).setCell ⟨Sg, 1, none⟩ (.int .i64 (nZ xs)) = w5 at *
 have HX5 := hide (HX.out.kept HK5.out HNS.out)
 obtain ⟨W, hWn⟩ := Int.eq_ofNat_of_zero_le (show 0 <= nW xs by have := (Dlt.within_iff.1 (show Dlt.within (nW xs) 1 32 = true from hW)).1; omega)
 have hW32 : W <= 32 := by have := (Dlt.within_iff.1 (show Dlt.within (nW xs) 1 32 = true from hW)).2; omega
 rw [hWn] at HA5
 have cW := HA5.out.c (j := 0) (u := .int .i64 W) rfl
 have HWN := hide hWn
 clear hWn hW hZ
 go_wp2
 have k0 : Kept [] w5 (World.drew w5) := (Kept.refl [] w5).drew
 refine wp_region_held_drew (S := fun w' => Kept [b] w5 w') (by kernel_rfl) ((Kept.refl [b] w5).drew) (fun h0 => ?_)
 generalize World.drew w5 = v0 at h0 k0 ⊢
 refine t4 0 (stV b) rfl (yieldsIf_load_mid (by rfl) _ _ rfl G 0 rfl (stC b) _ (fun W h => (HX5.out.kept h HNB.out).range) Tryz.underlying145 rfl Tryz.infoStrict) h0 ?_
 simp only [zz]
 refine t1 1 (.pointer (some ⟨Sg, 0, none⟩)) h0 ?_
 simp only [zz]
 refine t2 2 (.int .i64 W) rfl h0 ?_ (fun w hSw => by have c0 := Kept.cellOf hSw cW HSB.out; go_simp)
 simp only [zz]
 refine t4 4 (stV b) rfl (yieldsIf_load_mid (by rfl) _ _ rfl G 0 rfl (stC b) _ (fun W h => (HX5.out.kept h HNB.out).range) Tryz.underlying145 rfl Tryz.infoStrict) h0 ?_
 simp only [zz]
 refine t1 5 (.pointer (some ⟨Sg, 0, none⟩)) h0 ?_
 simp only [zz]
 refine t2 6 (.int .i64 W) rfl h0 ?_ (fun w hSw => by have c0 := Kept.cellOf hSw cW HSB.out; go_simp)
 simp only [zz]
 have hr0 := HR5.out.later k0
 clear k0
 refine rd 3 fun K hK => ?_
 go_simp
 refine (seal_no hr0 W hB).mono ?_
 rintro e vx ⟨rfl, hq⟩
 exact ⟨rfl, rfl, HK4.out.trans (HK5.out.trans (h0.tr hq) (by simp)) (fun i hi hl => by simp only [List.mem_cons, List.not_mem_nil, or_false] at hi; have := HBL.out; omega)⟩
theorem readOrd_targ (ao : Option Addr) (n cap : Nat) (xs : List UInt8) (w : World) (hn : xs.length = n) (hc : n <= cap) (hm : n <= 131072) (hs : Sl w ao xs) (h0 : ao = none -> xs = [] ∧ cap = 0) (hmk : mk xs = 68) (hW : Dlt.isW (stNumber xs (s1 xs)).1 = true) (hZ : Dlt.isZ (stNumber xs (stNumber xs (s1 xs)).2).1 = true) (hB : Dlt.within (stNumber xs (stNumber xs (stNumber xs (s1 xs)).2).2).1 0 131072 = true) (hT : Dlt.within (stNumber xs (stRaw xs (stNumber xs (stNumber xs (stNumber xs (s1 xs)).2).2).2 (nW xs)).2).1 0 131072 = false) :
  Calls Tryz.prog 49 #[.slice ao n cap] w fun e w' => e = gaveUp8 ∧ Kept [] w w' := by
 have hz := Tryz.zeroOrd
 have hzs := Tryz.zeroStrict
 have hK := ka w (.cells (ordC 0 0 wk0 wk0 (.slice none 0 0)).toArray 74)
 have hR0 := heap_new w (.cells (ordC 0 0 wk0 wk0 (.slice none 0 0)).toArray 74)
 have hop := open_yes ao n cap 68 xs (w.alloc (.cells (ordC 0 0 wk0 wk0 (.slice none 0 0)).toArray 74)) hn hm (hs.kept hK (by simp)) h0 hmk
 have HD := hide (ai hn (ai hc (ai hm hs)))
 have HK := hide hK
 clear hn hc hs h0 hmk hK
 obtain ⟨R, hR⟩ := nm (w.heap.size)
 rw [hR] at hR0
 go_enter Tryz.func49, Tryz.ntmps49
 go_upto_region 1 with (fail)
 have HRW := hide hR
 clear hR
 generalize w.alloc (.cells (ordC 0 0 wk0 wk0 (.slice none 0 0)).toArray 74) = w1 at *
 go_upto_region 2 with (go_at_call 86; refine hop.mono ?_; rintro r w2 ⟨b, ao', cap', rfl, hb, hbl, hrd, hk2⟩; have H2 := hide (ai hb (ai hbl (ai hrd hk2))); clear hop hb hbl hrd hk2)
 have hX := Sx.new w2 b
 have hk3 := ka w2 (.cells (stC b).toArray 145)
 obtain ⟨G, hG⟩ := nm (w2.heap.size)
 have hGb : b < G := by rw [<-hG]; exact H2.out.2.2.1.lt
 rw [hG] at hX ⊢
 have HGN := hide (show G = w2.heap.size from hG.symm)
 clear hG
 generalize w2.alloc (.cells (stC b).toArray 145) = w3 at hX hk3 ⊢
 have hA := OrdAt.new w3 0 0 wk0 wk0 (.slice none 0 0)
 have hk4 := ka w3 (.cells (ordC 0 0 wk0 wk0 (.slice none 0 0)).toArray 74)
 obtain ⟨Sg, hSg⟩ := nm (w3.heap.size)
 have hSG : G < Sg := by rw [<-hSg]; exact hX.lt
 rw [hSg] at hA
 go_upto_region 3 with (fail)
 have HSN := hide (show Sg = w3.heap.size from hSg.symm)
 clear hSg
 have hA : OrdAt (w3.alloc (.cells (ordC 0 0 wk0 wk0 (.slice none 0 0)).toArray 74)) Sg 0 0 wk0 wk0 (.slice none 0 0) := hA
 generalize w3.alloc (.cells (ordC 0 0 wk0 wk0 (.slice none 0 0)).toArray 74) = w4 at *
 have HX := hide (hX.kept hk4 (by simp))
 have HR4 := hide ((H2.out.2.2.1.later hk3).later hk4)
 have HK4 := hide (((HK.out.tr H2.out.2.2.2).tr hk3).tr hk4)
 have HOUT : Hid (w4.heap[R]? = some (.cells (ordC 0 0 wk0 wk0 (.slice none 0 0)).toArray 74 (0, 0))) := by
  have hl := (gs hR0).1
  show _ = _
  rw [hk4.block R (Nat.lt_of_lt_of_le hl (Nat.le_trans H2.out.2.2.2.size hk3.size)) (by simp), hk3.block R (Nat.lt_of_lt_of_le hl H2.out.2.2.2.size) (by simp), H2.out.2.2.2.block R hl (by simp)]
  exact hR0
 have HBL : Hid (w.heap.size <= b ∧ R < b ∧ b < G ∧ G < Sg ∧ Sg < w4.heap.size ∧ ∀ a, ao' = some a -> R < a.block ∧ (xs ≠ [] -> a.block < G)) := by
  have h1 := (gs hR0).1
  have h2 := H2.out.1
  have h3 := HK.out.size
  have h4 := HGN.out
  refine ⟨by omega, by omega, hGb, hSG, hA.lt, fun a ha => ⟨by have := H2.out.2.1 a ha; omega, fun hx => ?_⟩⟩
  have := H2.out.2.2.1.blk hx a ha
  omega
 have HA := hide hA
 have cb := HX.out.cell
 have HNB : Hid (G ∉ [b]) := by have := HBL.out; show G ∉ [b]; simp; omega
 have HNS : Hid (G ∉ [b, Sg]) := by have := HBL.out; show G ∉ [b, Sg]; simp; omega
 have HSB : Hid (Sg ∉ [b]) := by have := HBL.out; show Sg ∉ [b]; simp; omega
 clear hX hk3 hk4 hA H2 HK hR0 hSG hGb hz hzs
 have k0 : Kept [] w4 (World.drew w4) := (Kept.refl [] w4).drew
 refine wp_region_held_drew (S := fun w' => Kept [b, Sg] w4 w') (by kernel_rfl) ((Kept.refl [b, Sg] w4).drew) (fun h0 => ?_)
 generalize World.drew w4 = v0 at h0 k0 ⊢
 refine t4 0 (stV b) rfl (yieldsIf_load_mid (by rfl) _ _ rfl G 0 rfl (stC b) _ (fun W h => (HX.out.kept h HNS.out).range) Tryz.underlying145 rfl Tryz.infoStrict) h0 ?_
 simp only [zz]
 refine t4 2 (stV b) rfl (yieldsIf_load_mid (by rfl) _ _ rfl G 0 rfl (stC b) _ (fun W h => (HX.out.kept h HNS.out).range) Tryz.underlying145 rfl Tryz.infoStrict) h0 ?_
 simp only [zz]
 have hr0 := HR4.out.later k0
 have kk0 : Kept [b] w4 v0 := k0.mono (by simp)
 clear k0
 refine rd 1 fun K hK => ?_
 go_simp
 refine (width_yes hr0 hW).mono ?_
 rintro e v1 ⟨rfl, hr1, hq⟩
 have kk1 := kk0.tr hq
 refine hK.out _ _ (h0.tr hq) (fun h1 => ?_)
 clear hK K
 try simp only [zz]
 clear hq hr0 kk0 h0
 refine t1 4 (.pointer (some ⟨Sg, 0, none⟩)) h1 ?_
 simp only [zz]
 refine rd 3 fun K hK => ?_
 go_simp
 refine (size_yes hr1 hZ).mono ?_
 rintro e v2 ⟨rfl, hr2, hq⟩
 have kk2 := kk1.tr hq
 refine hK.out _ _ (h1.tr hq) (fun h2 => ?_)
 clear hK K
 try simp only [zz]
 clear hq hr1 kk1 h1
 have hA2 := HA.out.kept kk2 HSB.out
 have f0 := hA2.fr 0
 have c0 := hA2.c (j := 0) (u := .int .i64 0) rfl
 have hA3 := hA2.setW (nW xs)
 have f1 := hA3.fr 1
 have c1 := hA3.c (j := 1) (u := .int .i64 0) rfl
 have hA4 := hA3.setZ (nZ xs)
 simp only [show (stNumber xs (s1 xs)).1 = nW xs from rfl, show (stNumber xs (stNumber xs (s1 xs)).2).1 = nZ xs from rfl]
 refine rd 5 fun K hK => ?_
 go_simp
 refine hK.out _ _ (h2.setCell (by simp) _) (fun h3 => ?_)
 clear hK K h2
 try simp only [zz]
 refine t1 6 (.pointer (some ⟨Sg, 1, none⟩)) h3 ?_
 simp only [zz]
 refine rd 7 fun K hK => ?_
 go_simp
 refine hK.out _ _ (h3.setCell (by simp) _) (fun h4 => ?_)
 clear hK K h3
 try simp only [zz]
 refine qd ?_
 have k6 : Kept [Sg] v2 ((v2.setCell ⟨Sg, 0, none⟩ (.int .i64 (nW xs))).setCell ⟨Sg, 1, none⟩ (.int .i64 (nZ xs))) := ((Kept.refl [Sg] v2).setCell (by simp) _).setCell (by simp) _
 have HR5 : Hid (RdS ((v2.setCell ⟨Sg, 0, none⟩ (.int .i64 (nW xs))).setCell ⟨Sg, 1, none⟩ (.int .i64 (nZ xs))) b ao' cap' xs (stNumber xs (stNumber xs (s1 xs)).2).2) := hr2.kept k6 (by have := HBL.out; simp; omega) (fun hx a ha => by have h1 := HBL.out.2.2.2.2.2 a ha; have h2 := HBL.out; have := h1.2 hx; simp; omega)
 have HK5 : Hid (Kept [b, Sg] w4 ((v2.setCell ⟨Sg, 0, none⟩ (.int .i64 (nW xs))).setCell ⟨Sg, 1, none⟩ (.int .i64 (nZ xs)))) := (kk2.mono (by simp)).tr k6
 have HA5 := hide hA4
 clear k6 hr2 kk2 hA2 hA3 hA4 f0 f1 c0 c1 HA HR4
 generalize (v2.setCell ⟨Sg, 0, none⟩ (.int .i64 (nW xs))).setCell ⟨Sg, 1, none⟩ (.int .i64 (nZ xs)) = w5 at *
 have HX5 := hide (HX.out.kept HK5.out HNS.out)
 obtain ⟨W, hWn⟩ := Int.eq_ofNat_of_zero_le (show 0 <= nW xs by have := (Dlt.within_iff.1 (show Dlt.within (nW xs) 1 32 = true from hW)).1; omega)
 have hW32 : W <= 32 := by have := (Dlt.within_iff.1 (show Dlt.within (nW xs) 1 32 = true from hW)).2; omega
 rw [hWn] at HA5
 have cW := HA5.out.c (j := 0) (u := .int .i64 W) rfl
 have HWN := hide hWn
 clear hWn hW hZ
 go_wp2
 rw [HWN.out] at hT
 have k0 : Kept [] w5 (World.drew w5) := (Kept.refl [] w5).drew
 refine wp_region_held_drew (S := fun w' => Kept [b] w5 w') (by kernel_rfl) ((Kept.refl [b] w5).drew) (fun h0 => ?_)
 generalize World.drew w5 = v0 at h0 k0 ⊢
 refine t4 0 (stV b) rfl (yieldsIf_load_mid (by rfl) _ _ rfl G 0 rfl (stC b) _ (fun W h => (HX5.out.kept h HNB.out).range) Tryz.underlying145 rfl Tryz.infoStrict) h0 ?_
 simp only [zz]
 refine t1 1 (.pointer (some ⟨Sg, 0, none⟩)) h0 ?_
 simp only [zz]
 refine t2 2 (.int .i64 W) rfl h0 ?_ (fun w hSw => by have c0 := Kept.cellOf hSw cW HSB.out; go_simp)
 simp only [zz]
 refine t4 4 (stV b) rfl (yieldsIf_load_mid (by rfl) _ _ rfl G 0 rfl (stC b) _ (fun W h => (HX5.out.kept h HNB.out).range) Tryz.underlying145 rfl Tryz.infoStrict) h0 ?_
 simp only [zz]
 refine t1 5 (.pointer (some ⟨Sg, 0, none⟩)) h0 ?_
 simp only [zz]
 refine t2 6 (.int .i64 W) rfl h0 ?_ (fun w hSw => by have c0 := Kept.cellOf hSw cW HSB.out; go_simp)
 simp only [zz]
 have hr0 := HR5.out.later k0
 clear k0
 obtain ⟨bk, hbk1, hbk2⟩ := sealK xs (stNumber xs (stNumber xs (s1 xs)).2).2 W hB
 refine rd 3 fun K hK => ?_
 go_simp
 refine (seal_yes hr0 W hW32 hB bk hbk1 hbk2).mono ?_
 rintro e v1 ⟨rfl, hr1, hq⟩
 refine hK.out _ _ (h0.tr hq) (fun h1 => ?_)
 clear hK K
 try simp only [zz]
 clear hq hr0 h0
 refine t1 8 (.pointer (some ⟨Sg, 2, none⟩)) h1 ?_
 simp only [zz]
 refine rd 7 fun K hK => ?_
 go_simp
 refine (seal_no hr1 W hT).mono ?_
 rintro e vx ⟨rfl, hq⟩
 exact ⟨rfl, rfl, HK4.out.trans (HK5.out.trans (h1.tr hq) (by simp)) (fun i hi hl => by simp only [List.mem_cons, List.not_mem_nil, or_false] at hi; have := HBL.out; omega)⟩
end

section
open Dlt
namespace Dlt
theorem stText_len (xs : List UInt8) (s : Rs) : (stText xs s 131072).1.length <= 131072 := by
 unfold stText
 split
 ·split
  ·simp
  ·split
   ·split
    ·simp
    ·rename_i h
     split
     ·simp
     ·simp only [List.length_take]; omega
   ·simp
 ·simp
theorem rdI_len {xs : List UInt8} {n z : Nat} {s : Rs} {p : Stp × Rs} (h : rdI xs n s = some p) (hn : n * z <= 131072) : p.1.len z <= 131072 := by
 unfold rdI at h
 split at h
 ·split at h
  ·cases h
  ·rename_i hf
   split at h
   ·cases h
   ·rename_i hc
    rw [Bool.not_eq_false, within_iff] at hf hc
    injection h with h; subst h
    show (stNumber xs (stNumber xs (stFixed xs s 1).2).2).1.toNat * z <= 131072
    exact Nat.le_trans (Nat.mul_le_mul_right z (by omega)) hn
 ·split at h
  ·split at h
   ·cases h
   ·injection h with h; subst h
    exact stText_len _ _
  ·cases h
theorem rdIs_none {xs : List UInt8} {n : Nat} {s : Rs} {k : Nat} (h : rdIs xs n s k = none) : ∀ m, rdIs xs n s (k + m) = none
 | 0 => h
 | m + 1 => by
  show (rdIs xs n s (k + m)).bind _ = none
  rw [rdIs_none h m]; rfl
theorem rdIs_next {xs : List UInt8} {n : Nat} {s : Rs} {k : Nat} {p : List Stp × Rs} (h : rdIs xs n s k = some p) : rdIs xs n s (k + 1) = (rdI xs n p.2).map fun q => (p.1 ++ [q.1], q.2) := by
 show (rdIs xs n s k).bind _ = _
 rw [h, Option.bind_some]
structure Hd (xs : List UInt8) : Prop where
 len : xs.length <= 131072
 mark : mk xs = 68
 w : isW (nW xs) = true
 z : isZ (nZ xs) = true
 l : within (nL xs) 0 131072 = true
 t : within (nT xs) 0 131072 = true
theorem Hd.ok {xs : List UInt8} (h : Hd xs) : headOk xs = within (nI xs) 0 2048 := by
 unfold headOk
 rw [decide_eq_true h.len, decide_eq_true h.mark, h.w, h.z, h.l, h.t]
 simp
theorem Hd.dN {xs : List UInt8} (h : Hd xs) (hN : within (nI xs) 0 2048 = false) : decD xs = none := by
 unfold decD; rw [h.ok, hN, if_pos rfl]
theorem Hd.dI {xs : List UInt8} (h : Hd xs) (hN : within (nI xs) 0 2048 = true) {k : Nat} (hk : k < (nI xs).toNat) {p : List Stp × Rs} (hp : rdIs xs (cntB xs) (s7 xs) k = some p) (hi : rdI xs (cntB xs) p.2 = none) : decD xs = none := by
 have h1 : rdIs xs (cntB xs) (s7 xs) (k + 1) = none := by rw [rdIs_next hp, hi]; rfl
 have h2 := rdIs_none h1 ((nI xs).toNat - (k + 1))
 rw [show k + 1 + ((nI xs).toNat - (k + 1)) = (nI xs).toNat by omega] at h2
 unfold decD; rw [h.ok, hN, if_neg (by simp), h2]
theorem Hd.dE {xs : List UInt8} (h : Hd xs) (hN : within (nI xs) 0 2048 = true) {p : List Stp × Rs} (hp : rdIs xs (cntB xs) (s7 xs) (nI xs).toNat = some p) (he : (decide ((total (nZ xs).toNat p.1 : Int) = nT xs) && endOk xs p.2) = false) : decD xs = none := by
 unfold decD; rw [h.ok, hN, if_neg (by simp), hp]
 simp only
 rw [he, if_pos rfl]
theorem Hd.dY {xs : List UInt8} (h : Hd xs) (hN : within (nI xs) 0 2048 = true) {p : List Stp × Rs} (hp : rdIs xs (cntB xs) (s7 xs) (nI xs).toNat = some p) (he : (decide ((total (nZ xs).toNat p.1 : Int) = nT xs) && endOk xs p.2) = true) :
  decD xs = some ⟨(nW xs).toNat, (nZ xs).toNat, (nL xs).toNat, idB xs, (nT xs).toNat, idT xs, p.1, pad_len _, pad_len _⟩ := by
 unfold decD; rw [h.ok, hN, if_neg (by simp), hp]
 simp only
 rw [he, if_neg (by simp)]
end Dlt
theorem StpN.kept {l : List Nat} {w w' : World} {base : Nat} {s : Stp} {v : Value} (h : StpN base w s v) (hk : Kept l w w') (hl : ∀ i, i ∈ l -> i < base) : StpN base w' s v := by
 cases s with
 | copy f c => exact h
 | lit bs =>
  obtain ⟨ao, n, cap, e, h1, h2, h3, h4⟩ := h
  exact ⟨ao, n, cap, e, h1, h2, h3.kept hk (fun _ a ha hm => by have := hl _ hm; have := h4 a ha; omega), h4⟩
theorem StpN.mono {w : World} {base base' : Nat} {s : Stp} {v : Value} (h : StpN base w s v) (hb : base' <= base) : StpN base' w s v := by
 cases s with
 | copy f c => exact h
 | lit bs =>
  obtain ⟨ao, n, cap, e, h1, h2, h3, h4⟩ := h
  exact ⟨ao, n, cap, e, h1, h2, h3, fun a ha => Nat.le_trans hb (h4 a ha)⟩
theorem StpN.v {w : World} {base : Nat} {s : Stp} {v : Value} (h : StpN base w s v) : StpV w s v := by
 cases s with
 | copy f c => exact h
 | lit bs =>
  obtain ⟨ao, n, cap, e, h1, h2, h3, h4⟩ := h
  exact ⟨ao, n, cap, e, h1, h2, h3⟩
theorem Tryz.methRun (x : Array Value) (w : World) : (Go.method 308 116 (.agg x) "freight/delta.length").run Tryz.prog w = .ok (70, .agg x) w := by kernel_rfl
theorem Tryz.nilaRun (x : Array Value) (w : World) : (nilAhead 308 116 (.agg x) "freight/delta.length").run Tryz.prog w = .ok (some false) w := by kernel_rfl
theorem Tryz.methLit (ao : Option Addr) (n c : Nat) (w : World) : (Go.method 308 113 (.slice ao n c) "freight/delta.length").run Tryz.prog w = .ok (153, .slice ao n c) w := by kernel_rfl
theorem Tryz.nilaLit (ao : Option Addr) (n c : Nat) (w : World) : (nilAhead 308 113 (.slice ao n c) "freight/delta.length").run Tryz.prog w = .ok (some false) w := by kernel_rfl
theorem Tryz.enterRun (args : Array Value) (w : World) : (callFunc 70 args).run Tryz.prog w = .ok (.enter 70 args) w := by kernel_rfl
theorem Tryz.enterLit (args : Array Value) (w : World) : (callFunc 153 args).run Tryz.prog w = .ok (.enter 153 args) w := by kernel_rfl
theorem StpN.meth {w : World} {base : Nat} {s : Stp} {u : Value} (h : StpN base w s u) (z : Nat) (hz : s.len z <= 131072) : ∃ T sv fn, u = .iface T sv ∧ (∀ W, (Go.method 308 T sv "freight/delta.length").run Tryz.prog W = .ok (fn, sv) W) ∧ (∀ W, (nilAhead 308 T sv "freight/delta.length").run Tryz.prog W = .ok (some false) W) ∧ (∀ args W, (callFunc fn args).run Tryz.prog W = .ok (.enter fn args) W) ∧ ∀ W, Calls Tryz.prog fn #[sv, .int .i64 z] W fun e w' => e = .returned (.int .i64 (s.len z : Nat)) ∧ Kept [] W w' := by
 cases s with
 | copy f c =>
  exact ⟨_, _, _, h, Tryz.methRun _, Tryz.nilaRun _, Tryz.enterRun, fun W => runLength_ok f c z W (Nat.le_trans hz (by decide))⟩
 | lit bs =>
  obtain ⟨ao, n, cap, e, h1, h2, h3, h4⟩ := h
  refine ⟨_, _, _, e, Tryz.methLit _ _ _, Tryz.nilaLit _ _ _, Tryz.enterLit, fun W => (litLength_ok ao n cap z W).mono fun e w' he => ?_⟩
  obtain ⟨rfl, rfl⟩ := he
  exact ⟨by rw [<-h1]; rfl, Kept.refl [] _⟩
theorem Tryz.infoOrd (W Z : Int) (bk tk : Wk) (v : Value) : (Tryz.prog.info? 74).map (·.size) = some (ordC W Z bk tk v).length := by rw [ordC_len]; exact Tryz.infoOrdS
theorem Tryz.infoOrdA (W Z : Int) (bk tk : Wk) (v : Value) : (Tryz.prog.info? 74).map (·.size) = some (ordC W Z bk tk v).toArray.size := by rw [ordC_size]; exact Tryz.infoOrdS
theorem ordC_one (W Z : Int) (bk tk : Wk) (v : Value) (hv : v.oneCell' = true) : (ordC W Z bk tk v).toArray.all (·.oneCell') = true := by
 have h1 : bk.cells.all (·.oneCell') = true := List.all_eq_true.2 (wk_one bk)
 have h2 : tk.cells.all (·.oneCell') = true := List.all_eq_true.2 (wk_one tk)
 simp only [List.all_toArray]
 simp only [ordC, List.all_cons, List.all_append, h1, h2, hv, List.all_nil]
 rfl
theorem OrdAt.range {w : World} {G : Nat} {W Z : Int} {bk tk : Wk} {v : Value} (h : OrdAt w G W Z bk tk v) : w.rangeAt G 0 (ordC W Z bk tk v) := fun j u hu => by rw [Nat.zero_add]; exact h.c hu
def OrdPost (xs : List UInt8) (e : Ending) (w' : World) : Prop :=
 match decD xs with
 | none => e = gaveUp8
 | some d => ∃ gL vals bk tk, e = .returned (.agg (ordC d.width d.size bk tk (.slice (some ⟨gL, 0, none⟩) d.steps.length d.steps.length)).toArray) ∧ bk.sum = (d.blen : Nat) ∧ bk.id = d.bid ∧ tk.sum = (d.tlen : Nat) ∧ tk.id = d.tid ∧ Lst w' gL d.steps.length vals ∧ vals.length = d.steps.length ∧ ∀ (i : Nat) s u, d.steps[i]? = some s -> vals[i]? = some u -> StpV w' s u
theorem OrdPost.none {xs : List UInt8} {w' : World} (h : decD xs = none) : OrdPost xs gaveUp8 w' := by
 unfold OrdPost; rw [h]
end

end Go.Proofs.YtmklodligplbaabGreat
