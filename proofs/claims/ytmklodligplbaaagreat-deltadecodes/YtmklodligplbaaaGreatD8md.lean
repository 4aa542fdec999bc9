import Derived.Test.YtmklodligplbaaaGreatD8kd
namespace Go.Proofs.YtmklodligplbaaaGreat
open Go.RowKit
open Dlt
set_option linter.unusedVariables false
set_option linter.unusedSimpArgs false
set_option maxHeartbeats 6400000 in
set_option maxRecDepth 100000 in
theorem readSig_width (ao : Option Addr) (n cap : Nat) (xs : List UInt8) (w : World) (hn : xs.length = n) (hc : n ≤ cap) (hm : n ≤ 131072) (hs : Sl w ao xs) (h0 : ao = none → xs = [] ∧ cap = 0) (hmk : mk xs = 83) (hW : Dlt.isW (stNumber xs (s1 xs)).1 = false) :
  Calls Tryz.prog 23 #[.slice ao n cap] w fun e w' => e = gaveUp8 ∧ Kept [] w w' := by
 have hz := Tryz.zeroSig
 have hzs := Tryz.zeroStrict
 have hK : Kept [] w (w.alloc (.cells zeroS 29)) := (Kept.refl [] w).alloc _
 have hR0 := heap_new w (.cells zeroS 29)
 have hop := open_yes ao n cap 83 xs (w.alloc (.cells zeroS 29)) hn hm (hs.kept hK (by simp)) h0 hmk
 have HD := hide (And.intro hn (And.intro hc (And.intro hm hs)))
 have HK := hide hK
 clear hn hc hs h0 hmk hK
 obtain ⟨R, hR⟩ : ∃ R, w.heap.size = R := ⟨_, rfl⟩
 rw [hR] at hR0
 go_enter Tryz.func23, Tryz.ntmps23
 go_upto_region 1 with (fail)
 have HRW := hide hR
 clear hR
 generalize w.alloc (.cells zeroS 29) = w1 at *
 go_upto_region 2 with (go_at_call 48; refine hop.mono ?_; rintro r w2 ⟨b, ao', cap', rfl, hb, hbl, hrd, hk2⟩; have H2 := hide (And.intro hb (And.intro hbl (And.intro hrd hk2))); clear hop hb hbl hrd hk2)
 have hX := Sx.new w2 b
 have hk3 : Kept [] w2 (w2.alloc (.cells (stC b).toArray 88)) := (Kept.refl [] w2).alloc _
 obtain ⟨G, hG⟩ : ∃ G, w2.heap.size = G := ⟨_, rfl⟩
 have hGb : b < G := by rw [← hG]; exact H2.out.2.2.1.lt
 rw [hG] at hX ⊢
 have HGN := hide (show G = w2.heap.size from hG.symm)
 clear hG
 generalize w2.alloc (.cells (stC b).toArray 88) = w3 at hX hk3 ⊢
 have hA := SigAt.new w3 sig0 (.slice none 0 0)
 have hk4 : Kept [] w3 (w3.alloc (.cells zeroS 29)) := (Kept.refl [] w3).alloc _
 obtain ⟨Sg, hSg⟩ : ∃ Sg, w3.heap.size = Sg := ⟨_, rfl⟩
 have hSG : G < Sg := by rw [← hSg]; exact hX.lt
 rw [hSg] at hA
 go_upto_region 3 with (fail)
 have HSN := hide (show Sg = w3.heap.size from hSg.symm)
 clear hSg
 have hA : SigAt (w3.alloc (.cells zeroS 29)) Sg sig0 (.slice none 0 0) := hA
 generalize w3.alloc (.cells zeroS 29) = w4 at *
 have HX := hide (hX.kept hk4 (by simp))
 have HR4 := hide ((H2.out.2.2.1.later hk3).later hk4)
 have HK4 := hide (((HK.out.trans H2.out.2.2.2 (by simp)).trans hk3 (by simp)).trans hk4 (by simp))
 have HOUT : Hid (w4.heap[R]? = some (.cells zeroS 29 (0, 0))) := by
  have hl := (Array.getElem?_eq_some_iff.1 hR0).1
  show _ = _
  rw [hk4.block R (Nat.lt_of_lt_of_le hl (Nat.le_trans H2.out.2.2.2.size hk3.size)) (by simp), hk3.block R (Nat.lt_of_lt_of_le hl H2.out.2.2.2.size) (by simp), H2.out.2.2.2.block R hl (by simp)]
  exact hR0
 have HBL : Hid (w.heap.size ≤ b ∧ R < b ∧ b < G ∧ G < Sg ∧ Sg < w4.heap.size ∧ ∀ a, ao' = some a → R < a.block ∧ (xs ≠ [] → a.block < G)) := by
  have h1 := (Array.getElem?_eq_some_iff.1 hR0).1
  have h2 := H2.out.1
  have h3 := HK.out.size
  have h4 := HGN.out
  refine ⟨by omega, by omega, hGb, hSG, hA.lt, fun a ha => ⟨by have := H2.out.2.1 a ha; omega, fun hx => ?_⟩⟩
  have := H2.out.2.2.1.blk hx a ha
  omega
 have HA := hide hA
 have cb := HX.out.cell
 have HNB : Hid (G ∉ [b]) := by have := HBL.out; show G ∉ [b]; simp; omega
 have HNS : Hid (G ∉ [b, Sg]) := by have := HBL.out; show G ∉ [b, Sg]; simp; omega
 have HSB : Hid (Sg ∉ [b]) := by have := HBL.out; show Sg ∉ [b]; simp; omega
 clear hX hk3 hk4 hA H2 HK hR0 hSG hGb hz hzs
 have k0 : Kept [] w4 (World.drew w4) := (Kept.refl [] w4).drew
 refine wp_region_held_drew (S := fun w' => Kept [b, Sg] w4 w') (by kernel_rfl) ((Kept.refl [b, Sg] w4).drew) (fun h0 => ?_)
 generalize World.drew w4 = v0 at h0 k0 ⊢
 refine wpAnyH_take (i := 0) (v := stV b) rfl (by kernel_rfl) (by kernel_rfl) (by kernel_rfl) (fun _ _ _ h => h) (yieldsIf_load_mid (by rfl) _ _ rfl G 0 rfl (stC b) _ (fun W h => (HX.out.kept h HNS.out).range) Tryz.underlying88 rfl Tryz.infoStrict) h0 ?_
 try simp only [z1, z2, z3, z4, z5, z6, z7, z8]
 refine wpAnyH_take (i := 2) (v := stV b) rfl (by kernel_rfl) (by kernel_rfl) (by kernel_rfl) (fun _ _ _ h => h) (yieldsIf_load_mid (by rfl) _ _ rfl G 0 rfl (stC b) _ (fun W h => (HX.out.kept h HNS.out).range) Tryz.underlying88 rfl Tryz.infoStrict) h0 ?_
 try simp only [z1, z2, z3, z4, z5, z6, z7, z8]
 refine wpAnyH_take (i := 4) (v := stV b) rfl (by kernel_rfl) (by kernel_rfl) (by kernel_rfl) (fun _ _ _ h => h) (yieldsIf_load_mid (by rfl) _ _ rfl G 0 rfl (stC b) _ (fun W h => (HX.out.kept h HNS.out).range) Tryz.underlying88 rfl Tryz.infoStrict) h0 ?_
 try simp only [z1, z2, z3, z4, z5, z6, z7, z8]
 have hr0 := HR4.out.later k0
 have kk0 : Kept [b] w4 v0 := k0.mono (by simp)
 clear k0
 refine wpAnyH_ready (rs := [1]) (by kernel_rfl) (by simp) (AllReadyH.cons (i := 1) rfl (fun K hK => ?_) AllReadyH.nil)
 rw [if_pos (by rfl)]
 go_simp
 refine (width_no hr0 hW).mono ?_
 rintro e vx ⟨rfl, hq⟩
 exact ⟨rfl, rfl, HK4.out.trans (h0.trans hq (by simp)) (fun i hi hl => by simp only [List.mem_cons, List.not_mem_nil, or_false] at hi; have := HBL.out; omega)⟩
set_option maxHeartbeats 6400000 in
set_option maxRecDepth 100000 in
theorem readSig_size (ao : Option Addr) (n cap : Nat) (xs : List UInt8) (w : World) (hn : xs.length = n) (hc : n ≤ cap) (hm : n ≤ 131072) (hs : Sl w ao xs) (h0 : ao = none → xs = [] ∧ cap = 0) (hmk : mk xs = 83) (hW : Dlt.isW (stNumber xs (s1 xs)).1 = true) (hZ : Dlt.isZ (stNumber xs (stNumber xs (s1 xs)).2).1 = false) :
  Calls Tryz.prog 23 #[.slice ao n cap] w fun e w' => e = gaveUp8 ∧ Kept [] w w' := by
 have hz := Tryz.zeroSig
 have hzs := Tryz.zeroStrict
 have hK : Kept [] w (w.alloc (.cells zeroS 29)) := (Kept.refl [] w).alloc _
 have hR0 := heap_new w (.cells zeroS 29)
 have hop := open_yes ao n cap 83 xs (w.alloc (.cells zeroS 29)) hn hm (hs.kept hK (by simp)) h0 hmk
 have HD := hide (And.intro hn (And.intro hc (And.intro hm hs)))
 have HK := hide hK
 clear hn hc hs h0 hmk hK
 obtain ⟨R, hR⟩ : ∃ R, w.heap.size = R := ⟨_, rfl⟩
 rw [hR] at hR0
 go_enter Tryz.func23, Tryz.ntmps23
 go_upto_region 1 with (fail)
 have HRW := hide hR
 clear hR
 generalize w.alloc (.cells zeroS 29) = w1 at *
 go_upto_region 2 with (go_at_call 48; refine hop.mono ?_; rintro r w2 ⟨b, ao', cap', rfl, hb, hbl, hrd, hk2⟩; have H2 := hide (And.intro hb (And.intro hbl (And.intro hrd hk2))); clear hop hb hbl hrd hk2)
 have hX := Sx.new w2 b
 have hk3 : Kept [] w2 (w2.alloc (.cells (stC b).toArray 88)) := (Kept.refl [] w2).alloc _
 obtain ⟨G, hG⟩ : ∃ G, w2.heap.size = G := ⟨_, rfl⟩
 have hGb : b < G := by rw [← hG]; exact H2.out.2.2.1.lt
 rw [hG] at hX ⊢
 have HGN := hide (show G = w2.heap.size from hG.symm)
 clear hG
 generalize w2.alloc (.cells (stC b).toArray 88) = w3 at hX hk3 ⊢
 have hA := SigAt.new w3 sig0 (.slice none 0 0)
 have hk4 : Kept [] w3 (w3.alloc (.cells zeroS 29)) := (Kept.refl [] w3).alloc _
 obtain ⟨Sg, hSg⟩ : ∃ Sg, w3.heap.size = Sg := ⟨_, rfl⟩
 have hSG : G < Sg := by rw [← hSg]; exact hX.lt
 rw [hSg] at hA
 go_upto_region 3 with (fail)
 have HSN := hide (show Sg = w3.heap.size from hSg.symm)
 clear hSg
 have hA : SigAt (w3.alloc (.cells zeroS 29)) Sg sig0 (.slice none 0 0) := hA
 generalize w3.alloc (.cells zeroS 29) = w4 at *
 have HX := hide (hX.kept hk4 (by simp))
 have HR4 := hide ((H2.out.2.2.1.later hk3).later hk4)
 have HK4 := hide (((HK.out.trans H2.out.2.2.2 (by simp)).trans hk3 (by simp)).trans hk4 (by simp))
 have HOUT : Hid (w4.heap[R]? = some (.cells zeroS 29 (0, 0))) := by
  have hl := (Array.getElem?_eq_some_iff.1 hR0).1
  show _ = _
  rw [hk4.block R (Nat.lt_of_lt_of_le hl (Nat.le_trans H2.out.2.2.2.size hk3.size)) (by simp), hk3.block R (Nat.lt_of_lt_of_le hl H2.out.2.2.2.size) (by simp), H2.out.2.2.2.block R hl (by simp)]
  exact hR0
 have HBL : Hid (w.heap.size ≤ b ∧ R < b ∧ b < G ∧ G < Sg ∧ Sg < w4.heap.size ∧ ∀ a, ao' = some a → R < a.block ∧ (xs ≠ [] → a.block < G)) := by
  have h1 := (Array.getElem?_eq_some_iff.1 hR0).1
  have h2 := H2.out.1
  have h3 := HK.out.size
  have h4 := HGN.out
  refine ⟨by omega, by omega, hGb, hSG, hA.lt, fun a ha => ⟨by have := H2.out.2.1 a ha; omega, fun hx => ?_⟩⟩
  have := H2.out.2.2.1.blk hx a ha
  omega
 have HA := hide hA
 have cb := HX.out.cell
 have HNB : Hid (G ∉ [b]) := by have := HBL.out; show G ∉ [b]; simp; omega
 have HNS : Hid (G ∉ [b, Sg]) := by have := HBL.out; show G ∉ [b, Sg]; simp; omega
 have HSB : Hid (Sg ∉ [b]) := by have := HBL.out; show Sg ∉ [b]; simp; omega
 clear hX hk3 hk4 hA H2 HK hR0 hSG hGb hz hzs
 have k0 : Kept [] w4 (World.drew w4) := (Kept.refl [] w4).drew
 refine wp_region_held_drew (S := fun w' => Kept [b, Sg] w4 w') (by kernel_rfl) ((Kept.refl [b, Sg] w4).drew) (fun h0 => ?_)
 generalize World.drew w4 = v0 at h0 k0 ⊢
 refine wpAnyH_take (i := 0) (v := stV b) rfl (by kernel_rfl) (by kernel_rfl) (by kernel_rfl) (fun _ _ _ h => h) (yieldsIf_load_mid (by rfl) _ _ rfl G 0 rfl (stC b) _ (fun W h => (HX.out.kept h HNS.out).range) Tryz.underlying88 rfl Tryz.infoStrict) h0 ?_
 try simp only [z1, z2, z3, z4, z5, z6, z7, z8]
 refine wpAnyH_take (i := 2) (v := stV b) rfl (by kernel_rfl) (by kernel_rfl) (by kernel_rfl) (fun _ _ _ h => h) (yieldsIf_load_mid (by rfl) _ _ rfl G 0 rfl (stC b) _ (fun W h => (HX.out.kept h HNS.out).range) Tryz.underlying88 rfl Tryz.infoStrict) h0 ?_
 try simp only [z1, z2, z3, z4, z5, z6, z7, z8]
 refine wpAnyH_take (i := 4) (v := stV b) rfl (by kernel_rfl) (by kernel_rfl) (by kernel_rfl) (fun _ _ _ h => h) (yieldsIf_load_mid (by rfl) _ _ rfl G 0 rfl (stC b) _ (fun W h => (HX.out.kept h HNS.out).range) Tryz.underlying88 rfl Tryz.infoStrict) h0 ?_
 try simp only [z1, z2, z3, z4, z5, z6, z7, z8]
 have hr0 := HR4.out.later k0
 have kk0 : Kept [b] w4 v0 := k0.mono (by simp)
 clear k0
 refine wpAnyH_ready (rs := [1]) (by kernel_rfl) (by simp) (AllReadyH.cons (i := 1) rfl (fun K hK => ?_) AllReadyH.nil)
 rw [if_pos (by rfl)]
 go_simp
 refine (width_yes hr0 hW).mono ?_
 rintro e v1 ⟨rfl, hr1, hq⟩
 have kk1 := kk0.trans hq (by simp)
 refine hK.out _ _ (h0.trans hq (by simp)) (fun h1 => ?_)
 clear hK K
 try simp only [z1, z2, z3, z4, z5, z6, z7, z8]
 clear hq hr0 kk0 h0
 refine wpAnyH_take (i := 6) (v := .pointer (some ⟨Sg, 0, none⟩)) rfl (by kernel_rfl) (by kernel_rfl) (by kernel_rfl) (fun _ _ _ h => h) (Or.inl ⟨by rfl, fun w hSw => by go_simp⟩) h1 ?_
 try simp only [z1, z2, z3, z4, z5, z6, z7, z8]
 refine wpAnyH_ready (rs := [3]) (by kernel_rfl) (by simp) (AllReadyH.cons (i := 3) rfl (fun K hK => ?_) AllReadyH.nil)
 rw [if_pos (by rfl)]
 go_simp
 refine (size_no hr1 hZ).mono ?_
 rintro e vx ⟨rfl, hq⟩
 exact ⟨rfl, rfl, HK4.out.trans (h1.trans hq (by simp)) (fun i hi hl => by simp only [List.mem_cons, List.not_mem_nil, or_false] at hi; have := HBL.out; omega)⟩
set_option maxHeartbeats 6400000 in
set_option maxRecDepth 100000 in
theorem readSig_length (ao : Option Addr) (n cap : Nat) (xs : List UInt8) (w : World) (hn : xs.length = n) (hc : n ≤ cap) (hm : n ≤ 131072) (hs : Sl w ao xs) (h0 : ao = none → xs = [] ∧ cap = 0) (hmk : mk xs = 83) (hW : Dlt.isW (stNumber xs (s1 xs)).1 = true) (hZ : Dlt.isZ (stNumber xs (stNumber xs (s1 xs)).2).1 = true) (hL : Dlt.within (stNumber xs (stNumber xs (stNumber xs (s1 xs)).2).2).1 0 131072 = false) :
  Calls Tryz.prog 23 #[.slice ao n cap] w fun e w' => e = gaveUp8 ∧ Kept [] w w' := by
 have hz := Tryz.zeroSig
 have hzs := Tryz.zeroStrict
 have hK : Kept [] w (w.alloc (.cells zeroS 29)) := (Kept.refl [] w).alloc _
 have hR0 := heap_new w (.cells zeroS 29)
 have hop := open_yes ao n cap 83 xs (w.alloc (.cells zeroS 29)) hn hm (hs.kept hK (by simp)) h0 hmk
 have HD := hide (And.intro hn (And.intro hc (And.intro hm hs)))
 have HK := hide hK
 clear hn hc hs h0 hmk hK
 obtain ⟨R, hR⟩ : ∃ R, w.heap.size = R := ⟨_, rfl⟩
 rw [hR] at hR0
 go_enter Tryz.func23, Tryz.ntmps23
 go_upto_region 1 with (fail)
 have HRW := hide hR
 clear hR
 generalize w.alloc (.cells zeroS 29) = w1 at *
 go_upto_region 2 with (go_at_call 48; refine hop.mono ?_; rintro r w2 ⟨b, ao', cap', rfl, hb, hbl, hrd, hk2⟩; have H2 := hide (And.intro hb (And.intro hbl (And.intro hrd hk2))); clear hop hb hbl hrd hk2)
 have hX := Sx.new w2 b
 have hk3 : Kept [] w2 (w2.alloc (.cells (stC b).toArray 88)) := (Kept.refl [] w2).alloc _
 obtain ⟨G, hG⟩ : ∃ G, w2.heap.size = G := ⟨_, rfl⟩
 have hGb : b < G := by rw [← hG]; exact H2.out.2.2.1.lt
 rw [hG] at hX ⊢
 have HGN := hide (show G = w2.heap.size from hG.symm)
 clear hG
 generalize w2.alloc (.cells (stC b).toArray 88) = w3 at hX hk3 ⊢
 have hA := SigAt.new w3 sig0 (.slice none 0 0)
 have hk4 : Kept [] w3 (w3.alloc (.cells zeroS 29)) := (Kept.refl [] w3).alloc _
 obtain ⟨Sg, hSg⟩ : ∃ Sg, w3.heap.size = Sg := ⟨_, rfl⟩
 have hSG : G < Sg := by rw [← hSg]; exact hX.lt
 rw [hSg] at hA
 go_upto_region 3 with (fail)
 have HSN := hide (show Sg = w3.heap.size from hSg.symm)
 clear hSg
 have hA : SigAt (w3.alloc (.cells zeroS 29)) Sg sig0 (.slice none 0 0) := hA
 generalize w3.alloc (.cells zeroS 29) = w4 at *
 have HX := hide (hX.kept hk4 (by simp))
 have HR4 := hide ((H2.out.2.2.1.later hk3).later hk4)
 have HK4 := hide (((HK.out.trans H2.out.2.2.2 (by simp)).trans hk3 (by simp)).trans hk4 (by simp))
 have HOUT : Hid (w4.heap[R]? = some (.cells zeroS 29 (0, 0))) := by
  have hl := (Array.getElem?_eq_some_iff.1 hR0).1
  show _ = _
  rw [hk4.block R (Nat.lt_of_lt_of_le hl (Nat.le_trans H2.out.2.2.2.size hk3.size)) (by simp), hk3.block R (Nat.lt_of_lt_of_le hl H2.out.2.2.2.size) (by simp), H2.out.2.2.2.block R hl (by simp)]
  exact hR0
 have HBL : Hid (w.heap.size ≤ b ∧ R < b ∧ b < G ∧ G < Sg ∧ Sg < w4.heap.size ∧ ∀ a, ao' = some a → R < a.block ∧ (xs ≠ [] → a.block < G)) := by
  have h1 := (Array.getElem?_eq_some_iff.1 hR0).1
  have h2 := H2.out.1
  have h3 := HK.out.size
  have h4 := HGN.out
  refine ⟨by omega, by omega, hGb, hSG, hA.lt, fun a ha => ⟨by have := H2.out.2.1 a ha; omega, fun hx => ?_⟩⟩
  have := H2.out.2.2.1.blk hx a ha
  omega
 have HA := hide hA
 have cb := HX.out.cell
 have HNB : Hid (G ∉ [b]) := by have := HBL.out; show G ∉ [b]; simp; omega
 have HNS : Hid (G ∉ [b, Sg]) := by have := HBL.out; show G ∉ [b, Sg]; simp; omega
 have HSB : Hid (Sg ∉ [b]) := by have := HBL.out; show Sg ∉ [b]; simp; omega
 clear hX hk3 hk4 hA H2 HK hR0 hSG hGb hz hzs
 have k0 : Kept [] w4 (World.drew w4) := (Kept.refl [] w4).drew
 refine wp_region_held_drew (S := fun w' => Kept [b, Sg] w4 w') (by kernel_rfl) ((Kept.refl [b, Sg] w4).drew) (fun h0 => ?_)
 generalize World.drew w4 = v0 at h0 k0 ⊢
 refine wpAnyH_take (i := 0) (v := stV b) rfl (by kernel_rfl) (by kernel_rfl) (by kernel_rfl) (fun _ _ _ h => h) (yieldsIf_load_mid (by rfl) _ _ rfl G 0 rfl (stC b) _ (fun W h => (HX.out.kept h HNS.out).range) Tryz.underlying88 rfl Tryz.infoStrict) h0 ?_
 try simp only [z1, z2, z3, z4, z5, z6, z7, z8]
 refine wpAnyH_take (i := 2) (v := stV b) rfl (by kernel_rfl) (by kernel_rfl) (by kernel_rfl) (fun _ _ _ h => h) (yieldsIf_load_mid (by rfl) _ _ rfl G 0 rfl (stC b) _ (fun W h => (HX.out.kept h HNS.out).range) Tryz.underlying88 rfl Tryz.infoStrict) h0 ?_
 try simp only [z1, z2, z3, z4, z5, z6, z7, z8]
 refine wpAnyH_take (i := 4) (v := stV b) rfl (by kernel_rfl) (by kernel_rfl) (by kernel_rfl) (fun _ _ _ h => h) (yieldsIf_load_mid (by rfl) _ _ rfl G 0 rfl (stC b) _ (fun W h => (HX.out.kept h HNS.out).range) Tryz.underlying88 rfl Tryz.infoStrict) h0 ?_
 try simp only [z1, z2, z3, z4, z5, z6, z7, z8]
 have hr0 := HR4.out.later k0
 have kk0 : Kept [b] w4 v0 := k0.mono (by simp)
 clear k0
 refine wpAnyH_ready (rs := [1]) (by kernel_rfl) (by simp) (AllReadyH.cons (i := 1) rfl (fun K hK => ?_) AllReadyH.nil)
 rw [if_pos (by rfl)]
 go_simp
 refine (width_yes hr0 hW).mono ?_
 rintro e v1 ⟨rfl, hr1, hq⟩
 have kk1 := kk0.trans hq (by simp)
 refine hK.out _ _ (h0.trans hq (by simp)) (fun h1 => ?_)
 clear hK K
 try simp only [z1, z2, z3, z4, z5, z6, z7, z8]
 clear hq hr0 kk0 h0
 refine wpAnyH_take (i := 6) (v := .pointer (some ⟨Sg, 0, none⟩)) rfl (by kernel_rfl) (by kernel_rfl) (by kernel_rfl) (fun _ _ _ h => h) (Or.inl ⟨by rfl, fun w hSw => by go_simp⟩) h1 ?_
 try simp only [z1, z2, z3, z4, z5, z6, z7, z8]
 refine wpAnyH_ready (rs := [3]) (by kernel_rfl) (by simp) (AllReadyH.cons (i := 3) rfl (fun K hK => ?_) AllReadyH.nil)
 rw [if_pos (by rfl)]
 go_simp
 refine (size_yes hr1 hZ).mono ?_
 rintro e v2 ⟨rfl, hr2, hq⟩
 have kk2 := kk1.trans hq (by simp)
 refine hK.out _ _ (h1.trans hq (by simp)) (fun h2 => ?_)
 clear hK K
 try simp only [z1, z2, z3, z4, z5, z6, z7, z8]
 clear hq hr1 kk1 h1
 refine wpAnyH_ready (rs := [5]) (by kernel_rfl) (by simp) (AllReadyH.cons (i := 5) rfl (fun K hK => ?_) AllReadyH.nil)
 rw [if_pos (by rfl)]
 go_simp
 refine (length_no hr2 hL).mono ?_
 rintro e vx ⟨rfl, hq⟩
 exact ⟨rfl, rfl, HK4.out.trans (h2.trans hq (by simp)) (fun i hi hl => by simp only [List.mem_cons, List.not_mem_nil, or_false] at hi; have := HBL.out; omega)⟩
set_option maxHeartbeats 6400000 in
set_option maxRecDepth 100000 in
theorem readSig_many (ao : Option Addr) (n cap : Nat) (xs : List UInt8) (w : World) (hn : xs.length = n) (hc : n ≤ cap) (hm : n ≤ 131072) (hs : Sl w ao xs) (h0 : ao = none → xs = [] ∧ cap = 0) (hmk : mk xs = 83) (hW : Dlt.isW (stNumber xs (s1 xs)).1 = true) (hZ : Dlt.isZ (stNumber xs (stNumber xs (s1 xs)).2).1 = true) (hL : Dlt.within (stNumber xs (stNumber xs (stNumber xs (s1 xs)).2).2).1 0 131072 = true) (hM :  2048 < nL xs / nZ xs) :
  Calls Tryz.prog 23 #[.slice ao n cap] w fun e w' => e = gaveUp8 ∧ Kept [] w w' := by
 have hz := Tryz.zeroSig
 have hzs := Tryz.zeroStrict
 have hK : Kept [] w (w.alloc (.cells zeroS 29)) := (Kept.refl [] w).alloc _
 have hR0 := heap_new w (.cells zeroS 29)
 have hop := open_yes ao n cap 83 xs (w.alloc (.cells zeroS 29)) hn hm (hs.kept hK (by simp)) h0 hmk
 have HD := hide (And.intro hn (And.intro hc (And.intro hm hs)))
 have HK := hide hK
 clear hn hc hs h0 hmk hK
 obtain ⟨R, hR⟩ : ∃ R, w.heap.size = R := ⟨_, rfl⟩
 rw [hR] at hR0
 go_enter Tryz.func23, Tryz.ntmps23
 go_upto_region 1 with (fail)
 have HRW := hide hR
 clear hR
 generalize w.alloc (.cells zeroS 29) = w1 at *
 go_upto_region 2 with (go_at_call 48; refine hop.mono ?_; rintro r w2 ⟨b, ao', cap', rfl, hb, hbl, hrd, hk2⟩; have H2 := hide (And.intro hb (And.intro hbl (And.intro hrd hk2))); clear hop hb hbl hrd hk2)
 have hX := Sx.new w2 b
 have hk3 : Kept [] w2 (w2.alloc (.cells (stC b).toArray 88)) := (Kept.refl [] w2).alloc _
 obtain ⟨G, hG⟩ : ∃ G, w2.heap.size = G := ⟨_, rfl⟩
 have hGb : b < G := by rw [← hG]; exact H2.out.2.2.1.lt
 rw [hG] at hX ⊢
 have HGN := hide (show G = w2.heap.size from hG.symm)
 clear hG
 generalize w2.alloc (.cells (stC b).toArray 88) = w3 at hX hk3 ⊢
 have hA := SigAt.new w3 sig0 (.slice none 0 0)
 have hk4 : Kept [] w3 (w3.alloc (.cells zeroS 29)) := (Kept.refl [] w3).alloc _
 obtain ⟨Sg, hSg⟩ : ∃ Sg, w3.heap.size = Sg := ⟨_, rfl⟩
 have hSG : G < Sg := by rw [← hSg]; exact hX.lt
 rw [hSg] at hA
 go_upto_region 3 with (fail)
 have HSN := hide (show Sg = w3.heap.size from hSg.symm)
 clear hSg
 have hA : SigAt (w3.alloc (.cells zeroS 29)) Sg sig0 (.slice none 0 0) := hA
 generalize w3.alloc (.cells zeroS 29) = w4 at *
 have HX := hide (hX.kept hk4 (by simp))
 have HR4 := hide ((H2.out.2.2.1.later hk3).later hk4)
 have HK4 := hide (((HK.out.trans H2.out.2.2.2 (by simp)).trans hk3 (by simp)).trans hk4 (by simp))
 have HOUT : Hid (w4.heap[R]? = some (.cells zeroS 29 (0, 0))) := by
  have hl := (Array.getElem?_eq_some_iff.1 hR0).1
  show _ = _
  rw [hk4.block R (Nat.lt_of_lt_of_le hl (Nat.le_trans H2.out.2.2.2.size hk3.size)) (by simp), hk3.block R (Nat.lt_of_lt_of_le hl H2.out.2.2.2.size) (by simp), H2.out.2.2.2.block R hl (by simp)]
  exact hR0
 have HBL : Hid (w.heap.size ≤ b ∧ R < b ∧ b < G ∧ G < Sg ∧ Sg < w4.heap.size ∧ ∀ a, ao' = some a → R < a.block ∧ (xs ≠ [] → a.block < G)) := by
  have h1 := (Array.getElem?_eq_some_iff.1 hR0).1
  have h2 := H2.out.1
  have h3 := HK.out.size
  have h4 := HGN.out
  refine ⟨by omega, by omega, hGb, hSG, hA.lt, fun a ha => ⟨by have := H2.out.2.1 a ha; omega, fun hx => ?_⟩⟩
  have := H2.out.2.2.1.blk hx a ha
  omega
 have HA := hide hA
 have cb := HX.out.cell
 have HNB : Hid (G ∉ [b]) := by have := HBL.out; show G ∉ [b]; simp; omega
 have HNS : Hid (G ∉ [b, Sg]) := by have := HBL.out; show G ∉ [b, Sg]; simp; omega
 have HSB : Hid (Sg ∉ [b]) := by have := HBL.out; show Sg ∉ [b]; simp; omega
 clear hX hk3 hk4 hA H2 HK hR0 hSG hGb hz hzs
 have HMANY := hide hM
 clear hM
 have k0 : Kept [] w4 (World.drew w4) := (Kept.refl [] w4).drew
 refine wp_region_held_drew (S := fun w' => Kept [b, Sg] w4 w') (by kernel_rfl) ((Kept.refl [b, Sg] w4).drew) (fun h0 => ?_)
 generalize World.drew w4 = v0 at h0 k0 ⊢
 refine wpAnyH_take (i := 0) (v := stV b) rfl (by kernel_rfl) (by kernel_rfl) (by kernel_rfl) (fun _ _ _ h => h) (yieldsIf_load_mid (by rfl) _ _ rfl G 0 rfl (stC b) _ (fun W h => (HX.out.kept h HNS.out).range) Tryz.underlying88 rfl Tryz.infoStrict) h0 ?_
 try simp only [z1, z2, z3, z4, z5, z6, z7, z8]
 refine wpAnyH_take (i := 2) (v := stV b) rfl (by kernel_rfl) (by kernel_rfl) (by kernel_rfl) (fun _ _ _ h => h) (yieldsIf_load_mid (by rfl) _ _ rfl G 0 rfl (stC b) _ (fun W h => (HX.out.kept h HNS.out).range) Tryz.underlying88 rfl Tryz.infoStrict) h0 ?_
 try simp only [z1, z2, z3, z4, z5, z6, z7, z8]
 refine wpAnyH_take (i := 4) (v := stV b) rfl (by kernel_rfl) (by kernel_rfl) (by kernel_rfl) (fun _ _ _ h => h) (yieldsIf_load_mid (by rfl) _ _ rfl G 0 rfl (stC b) _ (fun W h => (HX.out.kept h HNS.out).range) Tryz.underlying88 rfl Tryz.infoStrict) h0 ?_
 try simp only [z1, z2, z3, z4, z5, z6, z7, z8]
 have hr0 := HR4.out.later k0
 have kk0 : Kept [b] w4 v0 := k0.mono (by simp)
 clear k0
 refine wpAnyH_ready (rs := [1]) (by kernel_rfl) (by simp) (AllReadyH.cons (i := 1) rfl (fun K hK => ?_) AllReadyH.nil)
 rw [if_pos (by rfl)]
 go_simp
 refine (width_yes hr0 hW).mono ?_
 rintro e v1 ⟨rfl, hr1, hq⟩
 have kk1 := kk0.trans hq (by simp)
 refine hK.out _ _ (h0.trans hq (by simp)) (fun h1 => ?_)
 clear hK K
 try simp only [z1, z2, z3, z4, z5, z6, z7, z8]
 clear hq hr0 kk0 h0
 refine wpAnyH_take (i := 6) (v := .pointer (some ⟨Sg, 0, none⟩)) rfl (by kernel_rfl) (by kernel_rfl) (by kernel_rfl) (fun _ _ _ h => h) (Or.inl ⟨by rfl, fun w hSw => by go_simp⟩) h1 ?_
 try simp only [z1, z2, z3, z4, z5, z6, z7, z8]
 refine wpAnyH_ready (rs := [3]) (by kernel_rfl) (by simp) (AllReadyH.cons (i := 3) rfl (fun K hK => ?_) AllReadyH.nil)
 rw [if_pos (by rfl)]
 go_simp
 refine (size_yes hr1 hZ).mono ?_
 rintro e v2 ⟨rfl, hr2, hq⟩
 have kk2 := kk1.trans hq (by simp)
 refine hK.out _ _ (h1.trans hq (by simp)) (fun h2 => ?_)
 clear hK K
 try simp only [z1, z2, z3, z4, z5, z6, z7, z8]
 clear hq hr1 kk1 h1
 refine wpAnyH_ready (rs := [5]) (by kernel_rfl) (by simp) (AllReadyH.cons (i := 5) rfl (fun K hK => ?_) AllReadyH.nil)
 rw [if_pos (by rfl)]
 go_simp
 refine (length_yes hr2 hL).mono ?_
 rintro e v3 ⟨rfl, hr3, hq⟩
 have kk3 := kk2.trans hq (by simp)
 refine hK.out _ _ (h2.trans hq (by simp)) (fun h3 => ?_)
 clear hK K
 try simp only [z1, z2, z3, z4, z5, z6, z7, z8]
 clear hq hr2 kk2 h2
 have hA3 := HA.out.kept kk3 HSB.out
 have f0 := hA3.fr 0
 have c0 := hA3.cell (Sig.c0 _ _)
 have hA4 := hA3.setW (nW xs)
 have f1 := hA4.fr 1
 have c1 := hA4.cell (Sig.c1 _ _)
 have hA5 := hA4.setZ (nZ xs)
 have f2 := hA5.fr 2
 have c2 := hA5.cell (Sig.c2 _ _)
 have hA6 := hA5.setL (nL xs)
 simp only [show (stNumber xs (s1 xs)).1 = nW xs from rfl, show (stNumber xs (stNumber xs (s1 xs)).2).1 = nZ xs from rfl, show (stNumber xs (stNumber xs (stNumber xs (s1 xs)).2).2).1 = nL xs from rfl]
 refine wpAnyH_ready (rs := [7]) (by kernel_rfl) (by simp) (AllReadyH.cons (i := 7) rfl (fun K hK => ?_) AllReadyH.nil)
 rw [if_pos (by rfl)]
 go_simp
 refine hK.out _ _ (h3.setCell (by simp) _) (fun h4 => ?_)
 clear hK K h3
 try simp only [z1, z2, z3, z4, z5, z6, z7, z8]
 refine wpAnyH_take (i := 8) (v := .pointer (some ⟨Sg, 1, none⟩)) rfl (by kernel_rfl) (by kernel_rfl) (by kernel_rfl) (fun _ _ _ h => h) (Or.inl ⟨by rfl, fun w hSw => by go_simp⟩) h4 ?_
 try simp only [z1, z2, z3, z4, z5, z6, z7, z8]
 refine wpAnyH_ready (rs := [9]) (by kernel_rfl) (by simp) (AllReadyH.cons (i := 9) rfl (fun K hK => ?_) AllReadyH.nil)
 rw [if_pos (by rfl)]
 go_simp
 refine hK.out _ _ (h4.setCell (by simp) _) (fun h5 => ?_)
 clear hK K h4
 try simp only [z1, z2, z3, z4, z5, z6, z7, z8]
 refine wpAnyH_take (i := 10) (v := .pointer (some ⟨Sg, 2, none⟩)) rfl (by kernel_rfl) (by kernel_rfl) (by kernel_rfl) (fun _ _ _ h => h) (Or.inl ⟨by rfl, fun w hSw => by go_simp⟩) h5 ?_
 try simp only [z1, z2, z3, z4, z5, z6, z7, z8]
 refine wpAnyH_ready (rs := [11]) (by kernel_rfl) (by simp) (AllReadyH.cons (i := 11) rfl (fun K hK => ?_) AllReadyH.nil)
 rw [if_pos (by rfl)]
 go_simp
 refine hK.out _ _ (h5.setCell (by simp) _) (fun h6 => ?_)
 clear hK K h5
 try simp only [z1, z2, z3, z4, z5, z6, z7, z8]
 refine wpAnyH_done (by kernel_rfl) ?_ _
 have k6 : Kept [Sg] v3 (((v3.setCell ⟨Sg, 0, none⟩ (.int .i64 (nW xs))).setCell ⟨Sg, 1, none⟩ (.int .i64 (nZ xs))).setCell ⟨Sg, 2, none⟩ (.int .i64 (nL xs))) := (((Kept.refl [Sg] v3).setCell (by simp) _).setCell (by simp) _).setCell (by simp) _
 obtain ⟨sgA, hsgA⟩ : ∃ sgA : Sig, { { { sig0 with width := nW xs } with size := nZ xs } with length := nL xs } = sgA := ⟨_, rfl⟩
 have qW : sgA.width = nW xs := by rw [← hsgA]
 have qZ : sgA.size = nZ xs := by rw [← hsgA]
 have qL : sgA.length = nL xs := by rw [← hsgA]
 rw [hsgA] at hA6
 have HSA := hide hsgA
 clear hsgA hA3 hA4 hA5 f0 f1 f2 c0 c1 c2 h6
 generalize ((v3.setCell ⟨Sg, 0, none⟩ (.int .i64 (nW xs))).setCell ⟨Sg, 1, none⟩ (.int .i64 (nZ xs))).setCell ⟨Sg, 2, none⟩ (.int .i64 (nL xs)) = w5 at hA6 k6 ⊢
 have HX5 := hide ((HX.out.kept kk3 HNB.out).kept k6 (by have := HBL.out; simp; omega))
 have HR5 : Hid (RdS w5 b ao' cap' xs (s4 xs)) := hr3.kept k6 (by have := HBL.out; simp; omega) (fun hx a ha => by have := HBL.out; have := (HBL.out.2.2.2.2.2 a ha).2 hx; simp; omega)
 have HK5 : Hid (Kept [] w w5) := (HK4.out.trans kk3 (fun i hi hl => by simp only [List.mem_singleton] at hi; have := HBL.out; omega)).trans k6 (fun i hi hl => by simp only [List.mem_singleton] at hi; have := HBL.out; omega)
 have HO5 : Hid (w5.heap[R]? = some (.cells zeroS 29 (0, 0))) := by
  have hl := (Array.getElem?_eq_some_iff.1 HOUT.out).1
  have := HBL.out
  show _ = _
  rw [k6.block R (Nat.lt_of_lt_of_le hl kk3.size) (by simp; omega), kk3.block R hl (by simp; omega)]
  exact HOUT.out
 have HA5 := hide hA6
 clear hr3 kk3 k6 HX HR4 HK4 HOUT HA cb
 have cW := hA6.cell (Sig.c0 _ _)
 have cZ := hA6.cell (Sig.c1 _ _)
 have cL := hA6.cell (Sig.c2 _ _)
 rw [qW] at cW
 rw [qZ] at cZ
 rw [qL] at cL
 clear hA6
 have hWb := hW
 have hZb := hZ
 have hLb := hL
 rw [show (stNumber xs (s1 xs)).1 = nW xs from rfl, isW, Dlt.within_iff] at hWb
 rw [show (stNumber xs (stNumber xs (s1 xs)).2).1 = nZ xs from rfl, isZ, Dlt.within_iff] at hZb
 rw [show (stNumber xs (stNumber xs (stNumber xs (s1 xs)).2).2).1 = nL xs from rfl, Dlt.within_iff] at hLb
 obtain ⟨W, hWn⟩ := Int.eq_ofNat_of_zero_le (show 0 ≤ nW xs by omega)
 obtain ⟨Z, hZn⟩ := Int.eq_ofNat_of_zero_le (show 0 ≤ nZ xs by omega)
 obtain ⟨N, hNn⟩ := Int.eq_ofNat_of_zero_le (show 0 ≤ nL xs by omega)
 rw [hWn] at cW
 rw [hZn] at cZ
 rw [hNn] at cL
 have hW32 : W ≤ 32 := by omega
 have hZ16 : 16 ≤ Z := by omega
 have hN13 : N ≤ 131072 := by omega
 obtain ⟨c, hcq⟩ : ∃ c, N / Z = c := ⟨_, rfl⟩
 have hcn : c ≤ 131072 := by rw [← hcq]; exact Nat.le_trans (Nat.div_le_self _ _) hN13
 have hdiv : (N : Int).tdiv (Z : Int) = (c : Int) := by rw [← hcq, Int.ofNat_tdiv]
 have HCC : Hid (nL xs / nZ xs = (c : Int)) := by show _ = _; rw [hZn, hNn, ← hcq, Int.natCast_ediv]
 have hzz : (Z : Int) ≠ 0 := by omega
 have hz0 : ((Z : Int) == 0) = false := by simp; omega
 have HWN := hide hWn
 clear hW hZ hL hWb hZb hLb hWn hZn hNn hcq qW qZ qL
 have hrg := HX5.out.range
 have hcz : decide ((c : Int) ≤ 2048) = false := by have := HMANY.out; rw [HCC.out] at this; simp; omega
 have hcz2 : ¬ (c : Int) ≤ 2048 := by simpa using hcz
 have hmu := must_no b w5
 go_wp2_with (first
  | refine wpList_load_mid rfl 88 (.tmp 3) rfl G 0 rfl (stC b) _ hrg Tryz.underlying88 rfl Tryz.infoStrict ?_
  | (go_at_call 52; refine hmu.mono ?_; rintro r w6 ⟨rfl, hk6⟩; have H6 := hide hk6; clear hmu hk6))
 exact ⟨rfl, rfl, HK5.out.trans H6.out (by simp)⟩
end Go.Proofs.YtmklodligplbaaaGreat
