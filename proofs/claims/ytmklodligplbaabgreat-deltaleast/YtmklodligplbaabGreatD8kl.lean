import Derived.Test.YtmklodligplbaabGreatD8jl
namespace Go.Proofs.YtmklodligplbaabGreat
section
open Go.RowKit
open Dlt
set_option linter.unusedVariables false
set_option linter.unusedSimpArgs false
theorem end_no {w : World} {b : Nat} {ao : Option Addr} {cap : Nat} {xs : List UInt8} {s : Rs} (h : RdS w b ao cap xs s) (dao : Option Addr) (n dcap : Nat) (hn : xs.length = n) (hc : n ≤ dcap) (hm : n ≤ 100000000000) (hs : Sl w dao xs) (hfar : xs ≠ [] → ∀ a, dao = some a → a.block ≠ b) (he : endOk xs s = false) :
  Calls Tryz.prog 93 #[stV b, .slice dao n dcap] w fun e w' => e = gaveUp8 ∧ Kept [b] w w' := by
 by_cases hL : stLeft xs s = 4
 ·refine end_sum h dao n dcap hn hc hm hs hfar hL (fun hF => ?_)
  simp [endOk, hL, hF] at he
 ·exact end_left h dao n dcap hn hc hm hs hfar hL
theorem end_ok {w : World} {b : Nat} {ao : Option Addr} {cap : Nat} {xs : List UInt8} {s : Rs} (h : RdS w b ao cap xs s) (dao : Option Addr) (n dcap : Nat) (hn : xs.length = n) (hc : n ≤ dcap) (hm : n ≤ 100000000000) (hs : Sl w dao xs) (hfar : xs ≠ [] → ∀ a, dao = some a → a.block ≠ b) (he : endOk xs s = true) :
  Calls Tryz.prog 93 #[stV b, .slice dao n dcap] w fun e w' => e = .returned (.tuple #[]) ∧ Kept [b] w w' := by
 simp only [endOk, Bool.and_eq_true, decide_eq_true_eq] at he
 exact end_yes h dao n dcap hn hc hm hs hfar he.1 he.2
theorem Tryz.zeroStrict (W : World) : (zeroValue 145).run Tryz.prog W = .ok (.agg #[.pointer none]) W := by kernel_rfl
theorem Tryz.builtStrict (p : Option Addr) (W : World) : (Instr.build 145 #[(0, .pointer p)]).run Tryz.prog W = .ok (.agg #[.pointer p]) W := by kernel_rfl
set_option maxHeartbeats 1600000 in
set_option maxRecDepth 100000 in
theorem open_long (ao : Option Addr) (n cap : Nat) (mark : Int) (w : World) (hn : 131072 < n) :
  Calls Tryz.prog 86 #[.slice ao n cap, .int .i64 mark] w fun e w' => e = gaveUp8 ∧ Kept [] w w' := by
 have hz := Tryz.zeroStrict
 have hK : Kept [] w (w.alloc (.cells #[.pointer none] 145)) := (Kept.refl [] w).alloc _
 have hg := giveUp_ok (w.alloc (.cells #[.pointer none] 145))
 have hnz : (131072 : Int) < (n : Int) := by omega
 go_enter Tryz.func86, Tryz.ntmps86
 go_wp2_with (go_at_call 113; refine hg.mono ?_; rintro r w' ⟨rfl, hw⟩; obtain rfl := hw.symm)
 exact ⟨rfl, rfl, hK⟩
set_option maxHeartbeats 1600000 in
set_option maxRecDepth 100000 in
theorem open_no (ao : Option Addr) (n cap : Nat) (mark : Int) (xs : List UInt8) (w : World) (hn : xs.length = n) (hm : n ≤ 131072) (hs : Sl w ao xs) (h0 : ao = none → xs = [] ∧ cap = 0) (hk : mk xs ≠ mark) :
  Calls Tryz.prog 86 #[.slice ao n cap, .int .i64 mark] w fun e w' => e = gaveUp8 ∧ Kept [] w w' := by
 have hz := Tryz.zeroStrict
 have hb0 := Tryz.builtStrict
 have hK : Kept [] w (w.alloc (.cells #[.pointer none] 145)) := (Kept.refl [] w).alloc _
 have hE := heap_new w (.cells #[.pointer none] 145)
 have hnz : ¬ (131072 : Int) < (n : Int) := by omega
 have hrd := read_any ao n cap xs (w.alloc (.cells #[.pointer none] 145)) hn (by omega) (hs.kept hK (by simp)) h0
 have HK := hide hK
 have HKK := hide hk
 clear hn hm hs h0 hK hk
 obtain ⟨E, hE0⟩ : ∃ E, w.heap.size = E := ⟨_, rfl⟩
 rw [hE0] at hE
 go_enter Tryz.func86, Tryz.ntmps86
 go_upto_region 3 with (fail)
 have HE0 := hide hE0
 clear hE0
 generalize w.alloc (.cells #[.pointer none] 145) = w1 at *
 go_upto_region 4 with (first
  | (go_at_call 114; refine hrd.mono ?_; rintro r w2 ⟨b, ao', cap', rfl, hb, hbl, hbl2, hR, hk2⟩; have H2 := hide (And.intro hb (And.intro hbl (And.intro (show RdS w2 b ao' cap' xs ⟨0, 0, 0⟩ from ⟨0, fun _ => rfl, hR⟩) hk2))); have hn2 := heap_new w2 (.cells #[.pointer none] 145); clear hrd hb hbl hbl2 hR hk2)
  | refine wpList_buildRun8 rfl 145 #[(0, .tmp 11)] rfl #[(0, .pointer (some ⟨b, 0, none⟩))] (by simp [Act.eval]) _ (hb0 _ _) ?_
  | refine wpList_store_rowTo rfl 145 (.tmp 5) (.tmp 12) rfl rfl w2.heap.size #[.pointer (some ⟨b, 0, none⟩)] rfl rfl 145 #[.pointer none] hn2 Tryz.infoStrict rfl rfl ?_)
 have hX := Sx.new w2 b
 have hk3 : Kept [] w2 (w2.alloc (.cells (stC b).toArray 145)) := (Kept.refl [] w2).alloc _
 obtain ⟨G, hG⟩ : ∃ G, w2.heap.size = G := ⟨_, rfl⟩
 have hGb : b < G := by rw [← hG]; exact H2.out.2.2.1.lt
 have hEG : E < G := by
  have h1 := H2.out.2.2.2.size
  have h2 := (Array.getElem?_eq_some_iff.1 hE).1
  omega
 rw [hG] at hX ⊢
 have HGN := hide (show G = w2.heap.size from hG.symm)
 clear hG hn2
 generalize w2.alloc (.cells (stC b).toArray 145) = w3 at hX hk3 ⊢
 have HR3 := hide (H2.out.2.2.1.later hk3)
 have HE3 : Hid (w3.heap[E]? = some (.cells #[.pointer none] 145 (0, 0))) := by
  have h2 := (Array.getElem?_eq_some_iff.1 hE).1
  show _ = _
  rw [hk3.block E (Nat.lt_of_lt_of_le h2 H2.out.2.2.2.size) (by simp), H2.out.2.2.2.block E h2 (by simp)]
  exact hE
 have HX := hide hX
 have cb := hX.cell
 have HK3 := hide ((HK.out.trans H2.out.2.2.2 (by simp)).trans hk3 (by simp))
 have HNB : Hid (G ∉ [b]) := by show G ∉ [b]; simp; omega
 have HBW : Hid (w.heap.size ≤ b ∧ (∀ a, ao' = some a → w.heap.size ≤ a.block) ∧ E ≠ b ∧ ∀ a, ao' = some a → a.block ≠ E) := by
  have h1 := HK.out.size
  have h2 := H2.out.1
  have h3 := (Array.getElem?_eq_some_iff.1 hE).1
  exact ⟨by omega, fun a ha => Nat.le_trans h1 (H2.out.2.1 a ha), by omega, fun a ha => by have := H2.out.2.1 a ha; omega⟩
 have HEG := hide hEG
 clear hX hk3 H2 HK hE hEG hGb
 obtain ⟨v, hv⟩ : ∃ v, mk xs = v := ⟨_, rfl⟩
 have HV := hide hv
 obtain ⟨q, hq0⟩ : ∃ q, (v == mark) = q := ⟨_, rfl⟩
 have HQ := hide hq0
 clear hv
 have k0 : Kept [] w3 (World.drew w3) := (Kept.refl [] w3).drew
 refine wp_region_held_drew (S := fun w' => Kept [b] w3 w') (by kernel_rfl) ((Kept.refl [b] w3).drew) (fun h0 => ?_)
 generalize World.drew w3 = v0 at h0 k0 ⊢
 refine wpAnyH_take (i := 0) (v := stV b) rfl (by kernel_rfl) (by kernel_rfl) (by kernel_rfl) (fun _ _ _ h => h) (yieldsIf_load_mid (by rfl) _ _ rfl G 0 rfl (stC b) _ (fun W h => (HX.out.kept h HNB.out).range) Tryz.underlying145 rfl Tryz.infoStrict) h0 ?_
 try simp only [z1, z2, z3, z4, z5, z6, z7, z8]
 refine wpAnyH_take (i := 1) (v := .pointer (some ⟨G, 0, none⟩)) rfl (by kernel_rfl) (by kernel_rfl) (by kernel_rfl) (fun _ _ _ h => h) (Or.inl ⟨by rfl, fun w hSw => by go_simp⟩) h0 ?_
 try simp only [z1, z2, z3, z4, z5, z6, z7, z8]
 refine wpAnyH_take (i := 2) (v := .pointer (some ⟨b, 0, none⟩)) rfl (by kernel_rfl) (by kernel_rfl) (by kernel_rfl) (fun _ _ _ h => h) (Or.inl ⟨by rfl, fun w hSw => by have c0 := Kept.cellOf hSw cb HNB.out; go_simp⟩) h0 ?_
 try simp only [z1, z2, z3, z4, z5, z6, z7, z8]
 refine wpAnyH_take (i := 4) (v := .int .i64 mark) rfl (by kernel_rfl) (by kernel_rfl) (by kernel_rfl) (fun _ _ _ h => h) (Or.inl ⟨by rfl, fun w hSw => by go_simp⟩) h0 ?_
 try simp only [z1, z2, z3, z4, z5, z6, z7, z8]
 refine wpAnyH_ready (rs := [3]) (by kernel_rfl) (by simp) (AllReadyH.cons (i := 3) rfl (fun K hK => ?_) AllReadyH.nil)
 rw [if_pos (by rfl)]
 go_simp
 refine (rfixed_st (HR3.out.later k0) 1).mono ?_
 rintro e v1 ⟨rfl, hk5, hr5⟩
 have hvv : (stFixed xs ⟨0, 0, 0⟩ 1).1 = v := HV.out
 rw [hvv]
 have HR5 := hide hr5
 clear hr5 hvv
 refine hK.out _ _ (h0.trans hk5 (by simp)) (fun h1 => ?_)
 clear hK K
 try simp only [z1, z2, z3, z4, z5, z6, z7, z8]
 clear hk5 h0 k0
 refine wpAnyH_take (i := 5) (v := .bool q) rfl (by kernel_rfl) (by kernel_rfl) (by kernel_rfl) (fun _ _ _ h => h) (Or.inl ⟨by rfl, fun w hSw => by go_simp⟩) h1 ?_
 try simp only [z1, z2, z3, z4, z5, z6, z7, z8]
 have hqf : q = false := by rw [← HQ.out]; simp only [beq_eq_false_iff_ne, ne_eq]; rw [← HV.out]; exact HKK.out
 subst hqf
 refine wpAnyH_ready (rs := [6]) (by kernel_rfl) (by simp) (AllReadyH.cons (i := 6) rfl (fun K hK => ?_) AllReadyH.nil)
 rw [if_pos (by rfl)]
 go_simp
 refine (must_no b v1).mono ?_
 rintro e v2 ⟨rfl, hq⟩
 exact ⟨rfl, rfl, (HK3.out.trans h1 (fun i hi hl => by simp only [List.mem_singleton] at hi; have := HBW.out.1; omega)).trans hq (by simp)⟩
set_option maxHeartbeats 1600000 in
set_option maxRecDepth 100000 in
theorem open_yes (ao : Option Addr) (n cap : Nat) (mark : Int) (xs : List UInt8) (w : World) (hn : xs.length = n) (hm : n ≤ 131072) (hs : Sl w ao xs) (h0 : ao = none → xs = [] ∧ cap = 0) (hk : mk xs = mark) :
  Calls Tryz.prog 86 #[.slice ao n cap, .int .i64 mark] w fun e w' => ∃ b ao' cap', e = .returned (stV b) ∧ w.heap.size ≤ b ∧ (∀ a, ao' = some a → w.heap.size ≤ a.block) ∧ RdS w' b ao' cap' xs (s1 xs) ∧ Kept [] w w' := by
 have hz := Tryz.zeroStrict
 have hb0 := Tryz.builtStrict
 have hK : Kept [] w (w.alloc (.cells #[.pointer none] 145)) := (Kept.refl [] w).alloc _
 have hE := heap_new w (.cells #[.pointer none] 145)
 have hnz : ¬ (131072 : Int) < (n : Int) := by omega
 have hrd := read_any ao n cap xs (w.alloc (.cells #[.pointer none] 145)) hn (by omega) (hs.kept hK (by simp)) h0
 have HK := hide hK
 have HKK := hide hk
 clear hn hm hs h0 hK hk
 obtain ⟨E, hE0⟩ : ∃ E, w.heap.size = E := ⟨_, rfl⟩
 rw [hE0] at hE
 go_enter Tryz.func86, Tryz.ntmps86
 go_upto_region 3 with (fail)
 have HE0 := hide hE0
 clear hE0
 generalize w.alloc (.cells #[.pointer none] 145) = w1 at *
 go_upto_region 4 with (first
  | (go_at_call 114; refine hrd.mono ?_; rintro r w2 ⟨b, ao', cap', rfl, hb, hbl, hbl2, hR, hk2⟩; have H2 := hide (And.intro hb (And.intro hbl (And.intro (show RdS w2 b ao' cap' xs ⟨0, 0, 0⟩ from ⟨0, fun _ => rfl, hR⟩) hk2))); have hn2 := heap_new w2 (.cells #[.pointer none] 145); clear hrd hb hbl hbl2 hR hk2)
  | refine wpList_buildRun8 rfl 145 #[(0, .tmp 11)] rfl #[(0, .pointer (some ⟨b, 0, none⟩))] (by simp [Act.eval]) _ (hb0 _ _) ?_
  | refine wpList_store_rowTo rfl 145 (.tmp 5) (.tmp 12) rfl rfl w2.heap.size #[.pointer (some ⟨b, 0, none⟩)] rfl rfl 145 #[.pointer none] hn2 Tryz.infoStrict rfl rfl ?_)
 have hX := Sx.new w2 b
 have hk3 : Kept [] w2 (w2.alloc (.cells (stC b).toArray 145)) := (Kept.refl [] w2).alloc _
 obtain ⟨G, hG⟩ : ∃ G, w2.heap.size = G := ⟨_, rfl⟩
 have hGb : b < G := by rw [← hG]; exact H2.out.2.2.1.lt
 have hEG : E < G := by
  have h1 := H2.out.2.2.2.size
  have h2 := (Array.getElem?_eq_some_iff.1 hE).1
  omega
 rw [hG] at hX ⊢
 have HGN := hide (show G = w2.heap.size from hG.symm)
 clear hG hn2
 generalize w2.alloc (.cells (stC b).toArray 145) = w3 at hX hk3 ⊢
 have HR3 := hide (H2.out.2.2.1.later hk3)
 have HE3 : Hid (w3.heap[E]? = some (.cells #[.pointer none] 145 (0, 0))) := by
  have h2 := (Array.getElem?_eq_some_iff.1 hE).1
  show _ = _
  rw [hk3.block E (Nat.lt_of_lt_of_le h2 H2.out.2.2.2.size) (by simp), H2.out.2.2.2.block E h2 (by simp)]
  exact hE
 have HX := hide hX
 have cb := hX.cell
 have HK3 := hide ((HK.out.trans H2.out.2.2.2 (by simp)).trans hk3 (by simp))
 have HNB : Hid (G ∉ [b]) := by show G ∉ [b]; simp; omega
 have HBW : Hid (w.heap.size ≤ b ∧ (∀ a, ao' = some a → w.heap.size ≤ a.block) ∧ E ≠ b ∧ ∀ a, ao' = some a → a.block ≠ E) := by
  have h1 := HK.out.size
  have h2 := H2.out.1
  have h3 := (Array.getElem?_eq_some_iff.1 hE).1
  exact ⟨by omega, fun a ha => Nat.le_trans h1 (H2.out.2.1 a ha), by omega, fun a ha => by have := H2.out.2.1 a ha; omega⟩
 have HEG := hide hEG
 clear hX hk3 H2 HK hE hEG hGb
 obtain ⟨v, hv⟩ : ∃ v, mk xs = v := ⟨_, rfl⟩
 have HV := hide hv
 obtain ⟨q, hq0⟩ : ∃ q, (v == mark) = q := ⟨_, rfl⟩
 have HQ := hide hq0
 clear hv
 have k0 : Kept [] w3 (World.drew w3) := (Kept.refl [] w3).drew
 refine wp_region_held_drew (S := fun w' => Kept [b] w3 w') (by kernel_rfl) ((Kept.refl [b] w3).drew) (fun h0 => ?_)
 generalize World.drew w3 = v0 at h0 k0 ⊢
 refine wpAnyH_take (i := 0) (v := stV b) rfl (by kernel_rfl) (by kernel_rfl) (by kernel_rfl) (fun _ _ _ h => h) (yieldsIf_load_mid (by rfl) _ _ rfl G 0 rfl (stC b) _ (fun W h => (HX.out.kept h HNB.out).range) Tryz.underlying145 rfl Tryz.infoStrict) h0 ?_
 try simp only [z1, z2, z3, z4, z5, z6, z7, z8]
 refine wpAnyH_take (i := 1) (v := .pointer (some ⟨G, 0, none⟩)) rfl (by kernel_rfl) (by kernel_rfl) (by kernel_rfl) (fun _ _ _ h => h) (Or.inl ⟨by rfl, fun w hSw => by go_simp⟩) h0 ?_
 try simp only [z1, z2, z3, z4, z5, z6, z7, z8]
 refine wpAnyH_take (i := 2) (v := .pointer (some ⟨b, 0, none⟩)) rfl (by kernel_rfl) (by kernel_rfl) (by kernel_rfl) (fun _ _ _ h => h) (Or.inl ⟨by rfl, fun w hSw => by have c0 := Kept.cellOf hSw cb HNB.out; go_simp⟩) h0 ?_
 try simp only [z1, z2, z3, z4, z5, z6, z7, z8]
 refine wpAnyH_take (i := 4) (v := .int .i64 mark) rfl (by kernel_rfl) (by kernel_rfl) (by kernel_rfl) (fun _ _ _ h => h) (Or.inl ⟨by rfl, fun w hSw => by go_simp⟩) h0 ?_
 try simp only [z1, z2, z3, z4, z5, z6, z7, z8]
 refine wpAnyH_ready (rs := [3]) (by kernel_rfl) (by simp) (AllReadyH.cons (i := 3) rfl (fun K hK => ?_) AllReadyH.nil)
 rw [if_pos (by rfl)]
 go_simp
 refine (rfixed_st (HR3.out.later k0) 1).mono ?_
 rintro e v1 ⟨rfl, hk5, hr5⟩
 have hvv : (stFixed xs ⟨0, 0, 0⟩ 1).1 = v := HV.out
 rw [hvv]
 have HR5 := hide hr5
 clear hr5 hvv
 refine hK.out _ _ (h0.trans hk5 (by simp)) (fun h1 => ?_)
 clear hK K
 try simp only [z1, z2, z3, z4, z5, z6, z7, z8]
 clear hk5 h0 k0
 refine wpAnyH_take (i := 5) (v := .bool q) rfl (by kernel_rfl) (by kernel_rfl) (by kernel_rfl) (fun _ _ _ h => h) (Or.inl ⟨by rfl, fun w hSw => by go_simp⟩) h1 ?_
 try simp only [z1, z2, z3, z4, z5, z6, z7, z8]
 have hqt : q = true := by rw [← HQ.out]; simp only [beq_iff_eq]; rw [← HV.out]; exact HKK.out
 subst hqt
 refine wpAnyH_ready (rs := [6]) (by kernel_rfl) (by simp) (AllReadyH.cons (i := 6) rfl (fun K hK => ?_) AllReadyH.nil)
 rw [if_pos (by rfl)]
 go_simp
 refine (must_yes b v1).mono ?_
 rintro e v2 ⟨rfl, hq⟩
 have HR6 := hide (HR5.out.later hq)
 refine hK.out _ _ (h1.trans hq (by simp)) (fun h2 => ?_)
 clear hK K
 try simp only [z1, z2, z3, z4, z5, z6, z7, z8]
 refine wpAnyH_done (by kernel_rfl) ?_ _
 clear hq h1 hq0 HR5
 have hrg := (HX.out.kept h2 HNB.out).range
 have hE2 : v2.heap[E]? = some (.cells #[.pointer none] 145 (0, 0)) := (h2.block E (Array.getElem?_eq_some_iff.1 HE3.out).1 (by have := HBW.out.2.2.1; simp; omega)).trans HE3.out
 have HK6 := hide (HK3.out.trans h2 (fun i hi hl => by simp only [List.mem_singleton] at hi; have := HBW.out.1; omega))
 clear h2 cb HX
 have cE : v2.cell? ⟨E, 0, none⟩ = some (.pointer none) := by rw [cell_of_row _ _ _ _ _ _ hE2]; rfl
 have fE : v2.frozen? ⟨E, 0, none⟩ = false := frozen_of_row _ _ _ _ _ hE2
 go_wp2_with (refine wpList_load_mid rfl 145 (.tmp 5) rfl G 0 rfl (stC b) _ hrg Tryz.underlying145 rfl Tryz.infoStrict ?_)
 have hkE : Kept [E] v2 (v2.setCell ⟨E, 0, none⟩ (.pointer (some ⟨b, 0, none⟩))) := (Kept.refl [E] v2).setCell (by simp) _
 have hrE : (v2.setCell ⟨E, 0, none⟩ (.pointer (some ⟨b, 0, none⟩))).heap[E]? = some (.cells (stC b).toArray 145 (0, 0)) := by rw [heap_setCell_same v2 _ 0 _ _ _ hE2]; rfl
 have hF1 : RdS (v2.setCell ⟨E, 0, none⟩ (.pointer (some ⟨b, 0, none⟩))) b ao' cap' xs (s1 xs) := HR6.out.kept hkE (by have := HBW.out.2.2.1; simp; omega) (fun hx a ha => by
  have h4 := HBW.out.2.2.2 a ha
  simpa using h4)
 have hF2 : Kept [] w (v2.setCell ⟨E, 0, none⟩ (.pointer (some ⟨b, 0, none⟩))) := HK6.out.trans hkE (fun i hi hl => by simp only [List.mem_singleton] at hi; have := HE0.out; omega)
 exact ret_row rfl rfl E 145 (stC b).toArray (0, 0) _ rfl hrE Tryz.underlying145 rfl Tryz.infoStrict ⟨b, ao', cap', rfl, HBW.out.1, HBW.out.2.1, hF1, hF2⟩
end

section
open Go.RowKit
open Dlt
set_option linter.unusedVariables false
set_option linter.unusedSimpArgs false
theorem SigAt.fr {w : World} {g : Nat} {s : Sig} {v : Value} (h : SigAt w g s v) (i : Nat) : w.frozen? ⟨g, i, none⟩ = false := frozen_of_row _ _ _ _ _ h.row
theorem SigAt.setW {w : World} {g : Nat} {s : Sig} {v : Value} (h : SigAt w g s v) (x : Int) : SigAt (w.setCell ⟨g, 0, none⟩ (.int .i64 x)) g { s with width := x } v := ⟨by rw [heap_setCell_same w _ 0 _ _ _ h.row]; rfl⟩
theorem SigAt.setZ {w : World} {g : Nat} {s : Sig} {v : Value} (h : SigAt w g s v) (x : Int) : SigAt (w.setCell ⟨g, 1, none⟩ (.int .i64 x)) g { s with size := x } v := ⟨by rw [heap_setCell_same w _ 1 _ _ _ h.row]; rfl⟩
theorem SigAt.setV {w : World} {g : Nat} {s : Sig} {v : Value} (h : SigAt w g s v) (u : Value) : SigAt (w.setCell ⟨g, 35, none⟩ u) g s u := by
 refine ⟨?_⟩
 rw [heap_setCell_same w _ 35 _ _ _ h.row]
 congr 2
 apply Array.ext'
 simp only [Array.toList_setIfInBounds, List.toList_toArray]
 unfold Sig.cells
 rw [List.set_cons_succ, List.set_cons_succ, List.set_cons_succ, List.set_append_right _ _ (by rw [bys_length, s.hb]; exact Nat.le_refl _), bys_length, s.hb]
 rfl
theorem SigAt.setB {w : World} {g : Nat} {s : Sig} {v : Value} (h : SigAt w g s v) (id : List UInt8) (hl : id.length = 32) : SigAt (w.setCells g 3 (bys id)) g { s with base := id, hb := hl } v := by
 refine ⟨?_⟩
 rw [setCells_row _ _ _ _ _ _ h.row (by rw [bys_length, hl, s.len]; omega), setRow_heap _ _ _ _ _ _ h.row, bys_length, hl]
 congr 3
 unfold Sig.cells
 show [.int .i64 s.width, .int .i64 s.size, .int .i64 s.length] ++ (bys id ++ (bys s.base ++ [v]).drop 32) = _
 rw [List.drop_append, List.drop_of_length_le (by rw [bys_length, s.hb]; exact Nat.le_refl _), bys_length, s.hb]
 rfl
def hlf (x : Int) (h : (Lit.int .i64 x).wf = true) : Wk := ⟨x, List.replicate 32 0, by simp, h⟩
structure Fih (w wr : World) (gB c : Nat) (L : List Wk) (e : Wk) : Prop where
 row : wr.heap[gB]? = some (.cells (wrows L ++ (e.cells ++ wrows (List.replicate (c - (L.length + 1)) wk0))).toArray 62 (0, 0))
 ge : w.heap.size ≤ gB
theorem Fih.kept {l : List Nat} {w w1 w2 : World} {gB c : Nat} {L : List Wk} {e : Wk} (h : Fih w w1 gB c L e) (hk : Kept l w1 w2) (hn : gB ∉ l) : Fih w w2 gB c L e := ⟨(hk.block gB (Array.getElem?_eq_some_iff.1 h.row).1 hn).trans h.row, h.ge⟩
theorem Fil.open {w w1 : World} {gB c : Nat} {L : List Wk} (h : Fil w w1 gB c L) (hl : L.length < c) : Fih w w1 gB c L wk0 := by
 refine ⟨?_, h.ge⟩
 rw [h.row]
 have e1 : c - L.length = (c - (L.length + 1)) + 1 := by omega
 rw [e1, List.replicate_succ, show L ++ wk0 :: List.replicate (c - (L.length + 1)) wk0 = L ++ ([wk0] ++ List.replicate (c - (L.length + 1)) wk0) from rfl, wrows_app, wrows_app]
 simp [wrows]
theorem Fih.cell {w w1 : World} {gB c : Nat} {L : List Wk} {e : Wk} (h : Fih w w1 gB c L e) : w1.cell? ⟨gB, L.length * 33, none⟩ = some (.int .i64 e.sum) ∧ w1.frozen? ⟨gB, L.length * 33, none⟩ = false ∧ w1.there gB (L.length * 33 + 1) 32 := by
 refine ⟨?_, frozen_of_row _ _ _ _ _ h.row, there_row h.row _ _ ?_⟩
 ·rw [cell_of_row _ _ _ _ _ _ h.row, List.getElem?_toArray, List.getElem?_append_right (by rw [wrows_len]; exact Nat.le_refl _), wrows_len, Nat.sub_self]
  rfl
 ·rw [List.size_toArray, List.length_append, List.length_append, wrows_len, e.len]; omega
theorem Fih.setS {w w1 : World} {gB c : Nat} {L : List Wk} {e : Wk} (h : Fih w w1 gB c L e) (x : Int) (hx : (Lit.int .i64 x).wf = true) : Fih w (w1.setCell ⟨gB, L.length * 33, none⟩ (.int .i64 x)) gB c L ⟨x, e.id, e.hid, hx⟩ := by
 refine ⟨?_, h.ge⟩
 rw [heap_setCell_same w1 _ _ _ _ _ h.row]
 congr 2
 apply Array.ext'
 simp only [Array.toList_setIfInBounds, List.toList_toArray]
 rw [List.set_append_right _ _ (by rw [wrows_len]; exact Nat.le_refl _), wrows_len, Nat.sub_self]
 rfl
theorem Fih.setI {w w1 : World} {gB c : Nat} {L : List Wk} {e : Wk} (h : Fih w w1 gB c L e) (id : List UInt8) (hl : id.length = 32) : Fih w (w1.setCells gB (L.length * 33 + 1) (bys id)) gB c L ⟨e.sum, id, hl, e.hs⟩ := by
 refine ⟨?_, h.ge⟩
 have hc : e.cells = [.int .i64 e.sum] ++ bys e.id := rfl
 have l1 : (wrows L).length = L.length * 33 := wrows_len L
 have l2 : (bys e.id).length = 32 := by rw [bys_length, e.hid]
 rw [setCells_row _ _ _ _ _ _ h.row (by rw [bys_length, hl, List.length_append, List.length_append, wrows_len, e.len]; omega), setRow_heap _ _ _ _ _ _ h.row, bys_length, hl]
 congr 3
 rw [hc, List.append_assoc, ← List.append_assoc (wrows L)]
 have l3 : (wrows L ++ [Value.int .i64 e.sum]).length = L.length * 33 + 1 := by rw [List.length_append, l1]; rfl
 rw [List.take_append_of_le_length (by omega), List.take_of_length_le (by omega), List.drop_append, List.drop_of_length_le (by omega), List.nil_append, l3, show L.length * 33 + 1 + 32 - (L.length * 33 + 1) = 32 by omega, List.drop_append, List.drop_of_length_le (by omega), List.nil_append, l2, Nat.sub_self, List.drop_zero]
 simp [Wk.cells]
end

end Go.Proofs.YtmklodligplbaabGreat
