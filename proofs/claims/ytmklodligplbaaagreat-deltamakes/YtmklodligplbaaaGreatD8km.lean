import Derived.Test.YtmklodligplbaaaGreatD8jm
open Go.RowKit
set_option linter.unusedVariables false
set_option linter.unusedSimpArgs false
set_option maxRecDepth 100000
set_option maxHeartbeats 51200000
namespace Go.Proofs.YtmklodligplbaaaGreat
section
open Dlt
theorem end_no {w : World} {b : Nat} {ao : Option Addr} {cap : Nat} {xs : List UInt8} {s : Rs} (h : RdS w b ao cap xs s) (dao : Option Addr) (n dcap : Nat) (hn : xs.length = n) (hc : n <= dcap) (hm : n <= 100000000000) (hs : Sl w dao xs) (hfar : xs ≠ [] -> ∀ a, dao = some a -> a.block ≠ b) (he : endOk xs s = false) :
  Calls Tryz.prog 55 #[stV b, .slice dao n dcap] w fun e w' => e = gaveUp8 ∧ Kept [b] w w' := by
 by_cases hL : stLeft xs s = 4
 ·refine end_sum h dao n dcap hn hc hm hs hfar hL (fun hF => ?_)
  simp [endOk, hL, hF] at he
 ·exact end_left h dao n dcap hn hc hm hs hfar hL
theorem end_ok {w : World} {b : Nat} {ao : Option Addr} {cap : Nat} {xs : List UInt8} {s : Rs} (h : RdS w b ao cap xs s) (dao : Option Addr) (n dcap : Nat) (hn : xs.length = n) (hc : n <= dcap) (hm : n <= 100000000000) (hs : Sl w dao xs) (hfar : xs ≠ [] -> ∀ a, dao = some a -> a.block ≠ b) (he : endOk xs s = true) :
  Calls Tryz.prog 55 #[stV b, .slice dao n dcap] w fun e w' => e = .returned (.tuple #[]) ∧ Kept [b] w w' := by
 simp only [endOk, Bool.and_eq_true, decide_eq_true_eq] at he
 exact end_yes h dao n dcap hn hc hm hs hfar he.1 he.2
theorem Tryz.zeroStrict (W : World) : (zeroValue 88).run Tryz.prog W = .ok (.agg #[.pointer none]) W := by kernel_rfl
theorem Tryz.builtStrict (p : Option Addr) (W : World) : (Instr.build 88 #[(0, .pointer p)]).run Tryz.prog W = .ok (.agg #[.pointer p]) W := by kernel_rfl
theorem open_long (ao : Option Addr) (n cap : Nat) (mark : Int) (w : World) (hn : 131072 < n) :
  Calls Tryz.prog 48 #[.slice ao n cap, .int .i64 mark] w fun e w' => e = gaveUp8 ∧ Kept [] w w' := by
 have hz := Tryz.zeroStrict
 have hK := ka w (.cells #[.pointer none] 88)
 have hg := giveUp_ok (w.alloc (.cells #[.pointer none] 88))
 have hnz : (131072 : Int) < (n : Int) := by omega
 go_enter Tryz.func48, Tryz.ntmps48
 go_wp2_with (go_at_call 86; refine hg.mono ?_; rintro r w' ⟨rfl, hw⟩; obtain rfl := hw.symm)
 exact ⟨rfl, rfl, hK⟩
theorem open_no (ao : Option Addr) (n cap : Nat) (mark : Int) (xs : List UInt8) (w : World) (hn : xs.length = n) (hm : n <= 131072) (hs : Sl w ao xs) (h0 : ao = none -> xs = [] ∧ cap = 0) (hk : mk xs ≠ mark) :
  Calls Tryz.prog 48 #[.slice ao n cap, .int .i64 mark] w fun e w' => e = gaveUp8 ∧ Kept [] w w' := by
 have hz := Tryz.zeroStrict
 have hb0 := Tryz.builtStrict
 have hK := ka w (.cells #[.pointer none] 88)
 have hE := heap_new w (.cells #[.pointer none] 88)
 have hnz : ¬ (131072 : Int) < (n : Int) := by omega
 have hrd := read_any ao n cap xs (w.alloc (.cells #[.pointer none] 88)) hn (by omega) (hs.kept hK (by simp)) h0
 have HK := hide hK
 have HKK := hide hk
 clear hn hm hs h0 hK hk
 obtain ⟨E, hE0⟩ := nm (w.heap.size)
 rw [hE0] at hE
 go_enter Tryz.func48, Tryz.ntmps48
 go_upto_region 3 with (fail)
 have HE0 := hide hE0
 clear hE0
 generalize w.alloc (.cells #[.pointer none] 88) = w1 at *
 go_upto_region 4 with (first
  | (go_at_call 87; refine hrd.mono ?_; rintro r w2 ⟨b, ao', cap', rfl, hb, hbl, hbl2, hR, hk2⟩; have H2 := hide (ai hb (ai hbl (ai (show RdS w2 b ao' cap' xs ⟨0, 0, 0⟩ from ⟨0, fun _ => rfl, hR⟩) hk2))); have hn2 := heap_new w2 (.cells #[.pointer none] 88); clear hrd hb hbl hbl2 hR hk2)
  | refine wpList_buildRun8 rfl 88 #[(0, .tmp 11)] rfl #[(0, .pointer (some ⟨b, 0, none⟩))] (by simp [Act.eval]) _ (hb0 _ _) ?_
  | refine wpList_store_rowTo rfl 88 (.tmp 5) (.tmp 12) rfl rfl w2.heap.size #[.pointer (some ⟨b, 0, none⟩)] rfl rfl 88 #[.pointer none] hn2 Tryz.infoStrict rfl rfl ?_)
 have hX := Sx.new w2 b
 have hk3 := ka w2 (.cells (stC b).toArray 88)
 obtain ⟨G, hG⟩ := nm (w2.heap.size)
 have hGb : b < G := by rw [<-hG]; exact H2.out.2.2.1.lt
 have hEG : E < G := by
  have h1 := H2.out.2.2.2.size
  have h2 := (gs hE).1
  omega
 rw [hG] at hX ⊢
 have HGN := hide (show G = w2.heap.size from hG.symm)
 clear hG hn2
 generalize w2.alloc (.cells (stC b).toArray 88) = w3 at hX hk3 ⊢
 have HR3 := hide (H2.out.2.2.1.later hk3)
 have HE3 : Hid (w3.heap[E]? = some (.cells #[.pointer none] 88 (0, 0))) := by
  have h2 := (gs hE).1
  show _ = _
  rw [hk3.block E (Nat.lt_of_lt_of_le h2 H2.out.2.2.2.size) (by simp), H2.out.2.2.2.block E h2 (by simp)]
  exact hE
 have HX := hide hX
 have cb := hX.cell
 have HK3 := hide ((HK.out.tr H2.out.2.2.2).tr hk3)
 have HNB : Hid (G ∉ [b]) := by show G ∉ [b]; simp; omega
 have HBW : Hid (w.heap.size <= b ∧ (∀ a, ao' = some a -> w.heap.size <= a.block) ∧ E ≠ b ∧ ∀ a, ao' = some a -> a.block ≠ E) := by
  have h1 := HK.out.size
  have h2 := H2.out.1
  have h3 := (gs hE).1
  exact ⟨by omega, fun a ha => Nat.le_trans h1 (H2.out.2.1 a ha), by omega, fun a ha => by have := H2.out.2.1 a ha; omega⟩
 have HEG := hide hEG
 clear hX hk3 H2 HK hE hEG hGb
 obtain ⟨v, hv⟩ := nm (mk xs)
 have HV := hide hv
 obtain ⟨q, hq0⟩ := nm ((v == mark))
 have HQ := hide hq0
 clear hv
 have k0 : Kept [] w3 (World.drew w3) := (Kept.refl [] w3).drew
 refine wp_region_held_drew (S := fun w' => Kept [b] w3 w') (by kernel_rfl) ((Kept.refl [b] w3).drew) (fun h0 => ?_)
 generalize World.drew w3 = v0 at h0 k0 ⊢
 refine t4 0 (stV b) rfl (yieldsIf_load_mid (by rfl) _ _ rfl G 0 rfl (stC b) _ (fun W h => (HX.out.kept h HNB.out).range) Tryz.underlying88 rfl Tryz.infoStrict) h0 ?_
 try simp only [zz]
 refine t1 1 (.pointer (some ⟨G, 0, none⟩)) h0 ?_
 try simp only [zz]
 refine t2 2 (.pointer (some ⟨b, 0, none⟩)) rfl h0 ?_ (fun w hSw => by have c0 := Kept.cellOf hSw cb HNB.out; go_simp)
 try simp only [zz]
 refine t1 4 (.int .i64 mark) h0 ?_
 try simp only [zz]
 refine rd 3 fun K hK => ?_
 go_simp
 refine (rfixed_st (HR3.out.later k0) 1).mono ?_
 rintro e v1 ⟨rfl, hk5, hr5⟩
 have hvv : (stFixed xs ⟨0, 0, 0⟩ 1).1 = v := HV.out
 rw [hvv]
 have HR5 := hide hr5
 clear hr5 hvv
 refine hK.out _ _ (h0.tr hk5) (fun h1 => ?_)
 clear hK K
 try simp only [zz]
 clear hk5 h0 k0
 refine t1 5 (.bool q) h1 ?_
 try simp only [zz]
 have hqf : q = false := by rw [<-HQ.out]; simp only [beq_eq_false_iff_ne, ne_eq]; rw [<-HV.out]; exact HKK.out
 subst hqf
 refine rd 6 fun K hK => ?_
 go_simp
 refine (must_no b v1).mono ?_
 rintro e v2 ⟨rfl, hq⟩
 exact ⟨rfl, rfl, (HK3.out.trans h1 (fun i hi hl => by simp only [List.mem_singleton] at hi; have := HBW.out.1; omega)).tr hq⟩
theorem open_yes (ao : Option Addr) (n cap : Nat) (mark : Int) (xs : List UInt8) (w : World) (hn : xs.length = n) (hm : n <= 131072) (hs : Sl w ao xs) (h0 : ao = none -> xs = [] ∧ cap = 0) (hk : mk xs = mark) :
  Calls Tryz.prog 48 #[.slice ao n cap, .int .i64 mark] w fun e w' => ∃ b ao' cap', e = .returned (stV b) ∧ w.heap.size <= b ∧ (∀ a, ao' = some a -> w.heap.size <= a.block) ∧ RdS w' b ao' cap' xs (s1 xs) ∧ Kept [] w w' := by
 have hz := Tryz.zeroStrict
 have hb0 := Tryz.builtStrict
 have hK := ka w (.cells #[.pointer none] 88)
 have hE := heap_new w (.cells #[.pointer none] 88)
 have hnz : ¬ (131072 : Int) < (n : Int) := by omega
 have hrd := read_any ao n cap xs (w.alloc (.cells #[.pointer none] 88)) hn (by omega) (hs.kept hK (by simp)) h0
 have HK := hide hK
 have HKK := hide hk
 clear hn hm hs h0 hK hk
 obtain ⟨E, hE0⟩ := nm (w.heap.size)
 rw [hE0] at hE
 go_enter Tryz.func48, Tryz.ntmps48
 go_upto_region 3 with (fail)
 have HE0 := hide hE0
 clear hE0
 generalize w.alloc (.cells #[.pointer none] 88) = w1 at *
 go_upto_region 4 with (first
  | (go_at_call 87; refine hrd.mono ?_; rintro r w2 ⟨b, ao', cap', rfl, hb, hbl, hbl2, hR, hk2⟩; have H2 := hide (ai hb (ai hbl (ai (show RdS w2 b ao' cap' xs ⟨0, 0, 0⟩ from ⟨0, fun _ => rfl, hR⟩) hk2))); have hn2 := heap_new w2 (.cells #[.pointer none] 88); clear hrd hb hbl hbl2 hR hk2)
  | refine wpList_buildRun8 rfl 88 #[(0, .tmp 11)] rfl #[(0, .pointer (some ⟨b, 0, none⟩))] (by simp [Act.eval]) _ (hb0 _ _) ?_
  | refine wpList_store_rowTo rfl 88 (.tmp 5) (.tmp 12) rfl rfl w2.heap.size #[.pointer (some ⟨b, 0, none⟩)] rfl rfl 88 #[.pointer none] hn2 Tryz.infoStrict rfl rfl ?_)
 have hX := Sx.new w2 b
 have hk3 := ka w2 (.cells (stC b).toArray 88)
 obtain ⟨G, hG⟩ := nm (w2.heap.size)
 have hGb : b < G := by rw [<-hG]; exact H2.out.2.2.1.lt
 have hEG : E < G := by
  have h1 := H2.out.2.2.2.size
  have h2 := (gs hE).1
  omega
 rw [hG] at hX ⊢
 have HGN := hide (show G = w2.heap.size from hG.symm)
 clear hG hn2
 generalize w2.alloc (.cells (stC b).toArray 88) = w3 at hX hk3 ⊢
 have HR3 := hide (H2.out.2.2.1.later hk3)
 have HE3 : Hid (w3.heap[E]? = some (.cells #[.pointer none] 88 (0, 0))) := by
  have h2 := (gs hE).1
  show _ = _
  rw [hk3.block E (Nat.lt_of_lt_of_le h2 H2.out.2.2.2.size) (by simp), H2.out.2.2.2.block E h2 (by simp)]
  exact hE
 have HX := hide hX
 have cb := hX.cell
 have HK3 := hide ((HK.out.tr H2.out.2.2.2).tr hk3)
 have HNB : Hid (G ∉ [b]) := by show G ∉ [b]; simp; omega
 have HBW : Hid (w.heap.size <= b ∧ (∀ a, ao' = some a -> w.heap.size <= a.block) ∧ E ≠ b ∧ ∀ a, ao' = some a -> a.block ≠ E) := by
  have h1 := HK.out.size
  have h2 := H2.out.1
  have h3 := (gs hE).1
  exact ⟨by omega, fun a ha => Nat.le_trans h1 (H2.out.2.1 a ha), by omega, fun a ha => by have := H2.out.2.1 a ha; omega⟩
 have HEG := hide hEG
 clear hX hk3 H2 HK hE hEG hGb
 obtain ⟨v, hv⟩ := nm (mk xs)
 have HV := hide hv
 obtain ⟨q, hq0⟩ := nm ((v == mark))
 have HQ := hide hq0
 clear hv
 have k0 : Kept [] w3 (World.drew w3) := (Kept.refl [] w3).drew
 refine wp_region_held_drew (S := fun w' => Kept [b] w3 w') (by kernel_rfl) ((Kept.refl [b] w3).drew) (fun h0 => ?_)
 generalize World.drew w3 = v0 at h0 k0 ⊢
 refine t4 0 (stV b) rfl (yieldsIf_load_mid (by rfl) _ _ rfl G 0 rfl (stC b) _ (fun W h => (HX.out.kept h HNB.out).range) Tryz.underlying88 rfl Tryz.infoStrict) h0 ?_
 try simp only [zz]
 refine t1 1 (.pointer (some ⟨G, 0, none⟩)) h0 ?_
 try simp only [zz]
 refine t2 2 (.pointer (some ⟨b, 0, none⟩)) rfl h0 ?_ (fun w hSw => by have c0 := Kept.cellOf hSw cb HNB.out; go_simp)
 try simp only [zz]
 refine t1 4 (.int .i64 mark) h0 ?_
 try simp only [zz]
 refine rd 3 fun K hK => ?_
 go_simp
 refine (rfixed_st (HR3.out.later k0) 1).mono ?_
 rintro e v1 ⟨rfl, hk5, hr5⟩
 have hvv : (stFixed xs ⟨0, 0, 0⟩ 1).1 = v := HV.out
 rw [hvv]
 have HR5 := hide hr5
 clear hr5 hvv
 refine hK.out _ _ (h0.tr hk5) (fun h1 => ?_)
 clear hK K
 try simp only [zz]
 clear hk5 h0 k0
 refine t1 5 (.bool q) h1 ?_
 try simp only [zz]
 have hqt : q = true := by rw [<-HQ.out]; simp only [beq_iff_eq]; rw [<-HV.out]; exact HKK.out
 subst hqt
 refine rd 6 fun K hK => ?_
 go_simp
 refine (must_yes b v1).mono ?_
 rintro e v2 ⟨rfl, hq⟩
 have HR6 := hide (HR5.out.later hq)
 refine hK.out _ _ (h1.tr hq) (fun h2 => ?_)
 clear hK K
 try simp only [zz]
 refine dn ?_
 clear hq h1 hq0 HR5
 have hrg := (HX.out.kept h2 HNB.out).range
 have hE2 : v2.heap[E]? = some (.cells #[.pointer none] 88 (0, 0)) := (h2.block E (gs HE3.out).1 (by have := HBW.out.2.2.1; simp; omega)).trans HE3.out
 have HK6 := hide (HK3.out.trans h2 (fun i hi hl => by simp only [List.mem_singleton] at hi; have := HBW.out.1; omega))
 clear h2 cb HX
 have cE : v2.cell? ⟨E, 0, none⟩ = some (.pointer none) := by rw [cell_of_row _ _ _ _ _ _ hE2]; rfl
 have fE : v2.frozen? ⟨E, 0, none⟩ = false := frozen_of_row _ _ _ _ _ hE2
 go_wp2_with (refine wpList_load_mid rfl 88 (.tmp 5) rfl G 0 rfl (stC b) _ hrg Tryz.underlying88 rfl Tryz.infoStrict ?_)
 have hkE : Kept [E] v2 (v2.setCell ⟨E, 0, none⟩ (.pointer (some ⟨b, 0, none⟩))) := (Kept.refl [E] v2).setCell (by simp) _
 have hrE : (v2.setCell ⟨E, 0, none⟩ (.pointer (some ⟨b, 0, none⟩))).heap[E]? = some (.cells (stC b).toArray 88 (0, 0)) := by rw [heap_setCell_same v2 _ 0 _ _ _ hE2]; rfl
 have hF1 : RdS (v2.setCell ⟨E, 0, none⟩ (.pointer (some ⟨b, 0, none⟩))) b ao' cap' xs (s1 xs) := HR6.out.kept hkE (by have := HBW.out.2.2.1; simp; omega) (fun hx a ha => by
  have h4 := HBW.out.2.2.2 a ha
  simpa using h4)
 have hF2 : Kept [] w (v2.setCell ⟨E, 0, none⟩ (.pointer (some ⟨b, 0, none⟩))) := HK6.out.trans hkE (fun i hi hl => by simp only [List.mem_singleton] at hi; have := HE0.out; omega)
 exact ret_row rfl rfl E 88 (stC b).toArray (0, 0) _ rfl hrE Tryz.underlying88 rfl Tryz.infoStrict ⟨b, ao', cap', rfl, HBW.out.1, HBW.out.2.1, hF1, hF2⟩
end

section
open Dlt
theorem SigAt.fr {w : World} {g : Nat} {s : Sig} {v : Value} (h : SigAt w g s v) (i : Nat) : w.frozen? ⟨g, i, none⟩ = false := frozen_of_row _ _ _ _ _ h.row
theorem SigAt.setW {w : World} {g : Nat} {s : Sig} {v : Value} (h : SigAt w g s v) (x : Int) : SigAt (w.setCell ⟨g, 0, none⟩ (.int .i64 x)) g { s with width := x } v := ⟨by rw [heap_setCell_same w _ 0 _ _ _ h.row]; rfl⟩
theorem SigAt.setZ {w : World} {g : Nat} {s : Sig} {v : Value} (h : SigAt w g s v) (x : Int) : SigAt (w.setCell ⟨g, 1, none⟩ (.int .i64 x)) g { s with size := x } v := ⟨by rw [heap_setCell_same w _ 1 _ _ _ h.row]; rfl⟩
theorem SigAt.setV {w : World} {g : Nat} {s : Sig} {v : Value} (h : SigAt w g s v) (u : Value) : SigAt (w.setCell ⟨g, 35, none⟩ u) g s u := by
 refine ⟨?_⟩
 rw [heap_setCell_same w _ 35 _ _ _ h.row]
 congr 2
 apply Array.ext'
 simp only [Array.toList_setIfInBounds, List.toList_toArray]
 unfold Sig.cells
 rw [List.set_cons_succ, List.set_cons_succ, List.set_cons_succ, List.set_append_right _ _ (by rw [bys_length, s.hb]; exact Nat.le_refl _), bys_length, s.hb]
 rfl
theorem SigAt.setB {w : World} {g : Nat} {s : Sig} {v : Value} (h : SigAt w g s v) (id : List UInt8) (hl : id.length = 32) : SigAt (w.setCells g 3 (bys id)) g { s with base := id, hb := hl } v := by
 refine ⟨?_⟩
 rw [setCells_row _ _ _ _ _ _ h.row (by rw [bys_length, hl, s.len]; omega), setRow_heap _ _ _ _ _ _ h.row, bys_length, hl]
 congr 3
 unfold Sig.cells
 show [.int .i64 s.width, .int .i64 s.size, .int .i64 s.length] ++ (bys id ++ (bys s.base ++ [v]).drop 32) = _
 rw [List.drop_append, List.drop_of_length_le (by rw [bys_length, s.hb]; exact Nat.le_refl _), bys_length, s.hb]
 rfl
def hlf (x : Int) (h : (Lit.int .i64 x).wf = true) : Wk := ⟨x, List.replicate 32 0, by simp, h⟩
structure Fih (w wr : World) (gB c : Nat) (L : List Wk) (e : Wk) : Prop where
 row : wr.heap[gB]? = some (.cells (wrows L ++ (e.cells ++ wrows (List.replicate (c - (L.length + 1)) wk0))).toArray 45 (0, 0))
 ge : w.heap.size <= gB
theorem Fih.kept {l : List Nat} {w w1 w2 : World} {gB c : Nat} {L : List Wk} {e : Wk} (h : Fih w w1 gB c L e) (hk : Kept l w1 w2) (hn : gB ∉ l) : Fih w w2 gB c L e := ⟨(hk.block gB (gs h.row).1 hn).trans h.row, h.ge⟩
theorem Fil.open {w w1 : World} {gB c : Nat} {L : List Wk} (h : Fil w w1 gB c L) (hl : L.length < c) : Fih w w1 gB c L wk0 := by
 refine ⟨?_, h.ge⟩
 rw [h.row]
 have e1 : c - L.length = (c - (L.length + 1)) + 1 := by omega
 rw [e1, List.replicate_succ, show L ++ wk0 :: List.replicate (c - (L.length + 1)) wk0 = L ++ ([wk0] ++ List.replicate (c - (L.length + 1)) wk0) from rfl, wrows_app, wrows_app]
 simp [wrows]
theorem Fih.cell {w w1 : World} {gB c : Nat} {L : List Wk} {e : Wk} (h : Fih w w1 gB c L e) : w1.cell? ⟨gB, L.length * 33, none⟩ = some (.int .i64 e.sum) ∧ w1.frozen? ⟨gB, L.length * 33, none⟩ = false ∧ w1.there gB (L.length * 33 + 1) 32 := by
 refine ⟨?_, frozen_of_row _ _ _ _ _ h.row, there_row h.row _ _ ?_⟩
 ·rw [cell_of_row _ _ _ _ _ _ h.row, List.getElem?_toArray, List.getElem?_append_right (by rw [wrows_len]; exact Nat.le_refl _), wrows_len, Nat.sub_self]
  rfl
 ·rw [List.size_toArray, List.length_append, List.length_append, wrows_len, e.len]; omega
theorem Fih.setS {w w1 : World} {gB c : Nat} {L : List Wk} {e : Wk} (h : Fih w w1 gB c L e) (x : Int) (hx : (Lit.int .i64 x).wf = true) : Fih w (w1.setCell ⟨gB, L.length * 33, none⟩ (.int .i64 x)) gB c L ⟨x, e.id, e.hid, hx⟩ := by
 refine ⟨?_, h.ge⟩
 rw [heap_setCell_same w1 _ _ _ _ _ h.row]
 congr 2
 apply Array.ext'
 simp only [Array.toList_setIfInBounds, List.toList_toArray]
 rw [List.set_append_right _ _ (by rw [wrows_len]; exact Nat.le_refl _), wrows_len, Nat.sub_self]
 rfl
end

end Go.Proofs.YtmklodligplbaaaGreat
