import Derived.Test.YtmklodligplbaabGreatD9ol
import Derived.Test.YtmklodligplbaabGreatD8pl
namespace Go.Proofs.YtmklodligplbaabGreat
open Go.RowKit
open Dlt
set_option linter.unusedVariables false
set_option linter.unusedSimpArgs false
theorem sealK (xs : List UInt8) (s : Rs) (W : Nat) (h : Dlt.within (stNumber xs s).1 0 131072 = true) : ∃ k : Wk, k.sum = (stNumber xs s).1 ∧ k.id = pad (stRaw xs (stNumber xs s).2 W).1 := by
 obtain ⟨h1, h2⟩ := Dlt.within_iff.1 h
 exact ⟨⟨(stNumber xs s).1, pad (stRaw xs (stNumber xs s).2 W).1, pad_len _, wf64 (by omega) (by omega)⟩, rfl, rfl⟩
set_option maxHeartbeats 1600000 in
set_option maxRecDepth 100000 in
theorem readOrd_long (ao : Option Addr) (n cap : Nat) (w : World) (hn : 131072 < n) :
  Calls Tryz.prog 49 #[.slice ao n cap] w fun e w' => e = gaveUp8 ∧ Kept [] w w' := by
 have hz := Tryz.zeroOrd
 have hK : Kept [] w (w.alloc (.cells (ordC 0 0 wk0 wk0 (.slice none 0 0)).toArray 74)) := (Kept.refl [] w).alloc _
 have hop := open_long ao n cap 68 (w.alloc (.cells (ordC 0 0 wk0 wk0 (.slice none 0 0)).toArray 74)) hn
 clear hn
 go_enter Tryz.func49, Tryz.ntmps49
 go_wp2_with (go_at_call 86; refine hop.mono ?_; rintro r w2 ⟨rfl, hk2⟩; have H2 := hide hk2; clear hop hk2)
 exact ⟨rfl, rfl, hK.trans H2.out (by simp)⟩
set_option maxHeartbeats 1600000 in
set_option maxRecDepth 100000 in
theorem readOrd_mark (ao : Option Addr) (n cap : Nat) (xs : List UInt8) (w : World) (hn : xs.length = n) (hm : n ≤ 131072) (hs : Sl w ao xs) (h0 : ao = none → xs = [] ∧ cap = 0) (hmk : mk xs ≠ 68) :
  Calls Tryz.prog 49 #[.slice ao n cap] w fun e w' => e = gaveUp8 ∧ Kept [] w w' := by
 have hz := Tryz.zeroOrd
 have hK : Kept [] w (w.alloc (.cells (ordC 0 0 wk0 wk0 (.slice none 0 0)).toArray 74)) := (Kept.refl [] w).alloc _
 have hop := open_no ao n cap 68 xs (w.alloc (.cells (ordC 0 0 wk0 wk0 (.slice none 0 0)).toArray 74)) hn hm (hs.kept hK (by simp)) h0 hmk
 clear hn hs h0 hmk
 go_enter Tryz.func49, Tryz.ntmps49
 go_wp2_with (go_at_call 86; refine hop.mono ?_; rintro r w2 ⟨rfl, hk2⟩; have H2 := hide hk2; clear hop hk2)
 exact ⟨rfl, rfl, hK.trans H2.out (by simp)⟩
set_option maxHeartbeats 6400000 in
set_option maxRecDepth 100000 in
theorem readOrd_width (ao : Option Addr) (n cap : Nat) (xs : List UInt8) (w : World) (hn : xs.length = n) (hc : n ≤ cap) (hm : n ≤ 131072) (hs : Sl w ao xs) (h0 : ao = none → xs = [] ∧ cap = 0) (hmk : mk xs = 68) (hW : Dlt.isW (stNumber xs (s1 xs)).1 = false) :
  Calls Tryz.prog 49 #[.slice ao n cap] w fun e w' => e = gaveUp8 ∧ Kept [] w w' := by
 have hz := Tryz.zeroOrd
 have hzs := Tryz.zeroStrict
 have hK : Kept [] w (w.alloc (.cells (ordC 0 0 wk0 wk0 (.slice none 0 0)).toArray 74)) := (Kept.refl [] w).alloc _
 have hR0 := heap_new w (.cells (ordC 0 0 wk0 wk0 (.slice none 0 0)).toArray 74)
 have hop := open_yes ao n cap 68 xs (w.alloc (.cells (ordC 0 0 wk0 wk0 (.slice none 0 0)).toArray 74)) hn hm (hs.kept hK (by simp)) h0 hmk
 have HD := hide (And.intro hn (And.intro hc (And.intro hm hs)))
 have HK := hide hK
 clear hn hc hs h0 hmk hK
 obtain ⟨R, hR⟩ : ∃ R, w.heap.size = R := ⟨_, rfl⟩
 rw [hR] at hR0
 go_enter Tryz.func49, Tryz.ntmps49
 go_upto_region 1 with (fail)
 have HRW := hide hR
 clear hR
 generalize w.alloc (.cells (ordC 0 0 wk0 wk0 (.slice none 0 0)).toArray 74) = w1 at *
 go_upto_region 2 with (go_at_call 86; refine hop.mono ?_; rintro r w2 ⟨b, ao', cap', rfl, hb, hbl, hrd, hk2⟩; have H2 := hide (And.intro hb (And.intro hbl (And.intro hrd hk2))); clear hop hb hbl hrd hk2)
 have hX := Sx.new w2 b
 have hk3 : Kept [] w2 (w2.alloc (.cells (stC b).toArray 145)) := (Kept.refl [] w2).alloc _
 obtain ⟨G, hG⟩ : ∃ G, w2.heap.size = G := ⟨_, rfl⟩
 have hGb : b < G := by rw [← hG]; exact H2.out.2.2.1.lt
 rw [hG] at hX ⊢
 have HGN := hide (show G = w2.heap.size from hG.symm)
 clear hG
 generalize w2.alloc (.cells (stC b).toArray 145) = w3 at hX hk3 ⊢
 have hA := OrdAt.new w3 0 0 wk0 wk0 (.slice none 0 0)
 have hk4 : Kept [] w3 (w3.alloc (.cells (ordC 0 0 wk0 wk0 (.slice none 0 0)).toArray 74)) := (Kept.refl [] w3).alloc _
 obtain ⟨Sg, hSg⟩ : ∃ Sg, w3.heap.size = Sg := ⟨_, rfl⟩
 have hSG : G < Sg := by rw [← hSg]; exact hX.lt
 rw [hSg] at hA
 go_upto_region 3 with (fail)
 have HSN := hide (show Sg = w3.heap.size from hSg.symm)
 clear hSg
 have hA : OrdAt (w3.alloc (.cells (ordC 0 0 wk0 wk0 (.slice none 0 0)).toArray 74)) Sg 0 0 wk0 wk0 (.slice none 0 0) := hA
 generalize w3.alloc (.cells (ordC 0 0 wk0 wk0 (.slice none 0 0)).toArray 74) = w4 at *
 have HX := hide (hX.kept hk4 (by simp))
 have HR4 := hide ((H2.out.2.2.1.later hk3).later hk4)
 have HK4 := hide (((HK.out.trans H2.out.2.2.2 (by simp)).trans hk3 (by simp)).trans hk4 (by simp))
 have HOUT : Hid (w4.heap[R]? = some (.cells (ordC 0 0 wk0 wk0 (.slice none 0 0)).toArray 74 (0, 0))) := by
  have hl := (Array.getElem?_eq_some_iff.1 hR0).1
  show _ = _
  rw [hk4.block R (Nat.lt_of_lt_of_le hl (Nat.le_trans H2.out.2.2.2.size hk3.size)) (by simp), hk3.block R (Nat.lt_of_lt_of_le hl H2.out.2.2.2.size) (by simp), H2.out.2.2.2.block R hl (by simp)]
  exact hR0
 have HBL : Hid (w.heap.size ≤ b ∧ R < b ∧ b < G ∧ G < Sg ∧ Sg < w4.heap.size ∧ ∀ a, ao' = some a → R < a.block ∧ (xs ≠ [] → a.block < G)) := by
  have h1 := (Array.getElem?_eq_some_iff.1 hR0).1
  have h2 := H2.out.1
  have h3 := HK.out.size
  have h4 := HGN.out
  refine ⟨by omega, by omega, hGb, hSG, hA.lt, fun a ha => ⟨by have := H2.out.2.1 a ha; omega, fun hx => ?_⟩⟩
  have := H2.out.2.2.1.blk hx a ha
  omega
 have HA := hide hA
 have cb := HX.out.cell
 have HNB : Hid (G ∉ [b]) := by have := HBL.out; show G ∉ [b]; simp; omega
 have HNS : Hid (G ∉ [b, Sg]) := by have := HBL.out; show G ∉ [b, Sg]; simp; omega
 have HSB : Hid (Sg ∉ [b]) := by have := HBL.out; show Sg ∉ [b]; simp; omega
 clear hX hk3 hk4 hA H2 HK hR0 hSG hGb hz hzs
 have k0 : Kept [] w4 (World.drew w4) := (Kept.refl [] w4).drew
 refine wp_region_held_drew (S := fun w' => Kept [b, Sg] w4 w') (by kernel_rfl) ((Kept.refl [b, Sg] w4).drew) (fun h0 => ?_)
 generalize World.drew w4 = v0 at h0 k0 ⊢
 refine wpAnyH_take (i := 0) (v := stV b) rfl (by kernel_rfl) (by kernel_rfl) (by kernel_rfl) (fun _ _ _ h => h) (yieldsIf_load_mid (by rfl) _ _ rfl G 0 rfl (stC b) _ (fun W h => (HX.out.kept h HNS.out).range) Tryz.underlying145 rfl Tryz.infoStrict) h0 ?_
 try simp only [z1, z2, z3, z4, z5, z6, z7, z8]
 refine wpAnyH_take (i := 2) (v := stV b) rfl (by kernel_rfl) (by kernel_rfl) (by kernel_rfl) (fun _ _ _ h => h) (yieldsIf_load_mid (by rfl) _ _ rfl G 0 rfl (stC b) _ (fun W h => (HX.out.kept h HNS.out).range) Tryz.underlying145 rfl Tryz.infoStrict) h0 ?_
 try simp only [z1, z2, z3, z4, z5, z6, z7, z8]
 have hr0 := HR4.out.later k0
 have kk0 : Kept [b] w4 v0 := k0.mono (by simp)
 clear k0
 refine wpAnyH_ready (rs := [1]) (by kernel_rfl) (by simp) (AllReadyH.cons (i := 1) rfl (fun K hK => ?_) AllReadyH.nil)
 rw [if_pos (by rfl)]
 go_simp
 refine (width_no hr0 hW).mono ?_
 rintro e vx ⟨rfl, hq⟩
 exact ⟨rfl, rfl, HK4.out.trans (h0.trans hq (by simp)) (fun i hi hl => by simp only [List.mem_cons, List.not_mem_nil, or_false] at hi; have := HBL.out; omega)⟩
set_option maxHeartbeats 6400000 in
set_option maxRecDepth 100000 in
theorem readOrd_size (ao : Option Addr) (n cap : Nat) (xs : List UInt8) (w : World) (hn : xs.length = n) (hc : n ≤ cap) (hm : n ≤ 131072) (hs : Sl w ao xs) (h0 : ao = none → xs = [] ∧ cap = 0) (hmk : mk xs = 68) (hW : Dlt.isW (stNumber xs (s1 xs)).1 = true) (hZ : Dlt.isZ (stNumber xs (stNumber xs (s1 xs)).2).1 = false) :
  Calls Tryz.prog 49 #[.slice ao n cap] w fun e w' => e = gaveUp8 ∧ Kept [] w w' := by
 have hz := Tryz.zeroOrd
 have hzs := Tryz.zeroStrict
 have hK : Kept [] w (w.alloc (.cells (ordC 0 0 wk0 wk0 (.slice none 0 0)).toArray 74)) := (Kept.refl [] w).alloc _
 have hR0 := heap_new w (.cells (ordC 0 0 wk0 wk0 (.slice none 0 0)).toArray 74)
 have hop := open_yes ao n cap 68 xs (w.alloc (.cells (ordC 0 0 wk0 wk0 (.slice none 0 0)).toArray 74)) hn hm (hs.kept hK (by simp)) h0 hmk
 have HD := hide (And.intro hn (And.intro hc (And.intro hm hs)))
 have HK := hide hK
 clear hn hc hs h0 hmk hK
 obtain ⟨R, hR⟩ : ∃ R, w.heap.size = R := ⟨_, rfl⟩
 rw [hR] at hR0
 go_enter Tryz.func49, Tryz.ntmps49
 go_upto_region 1 with (fail)
 have HRW := hide hR
 clear hR
 generalize w.alloc (.cells (ordC 0 0 wk0 wk0 (.slice none 0 0)).toArray 74) = w1 at *
 go_upto_region 2 with (go_at_call 86; refine hop.mono ?_; rintro r w2 ⟨b, ao', cap', rfl, hb, hbl, hrd, hk2⟩; have H2 := hide (And.intro hb (And.intro hbl (And.intro hrd hk2))); clear hop hb hbl hrd hk2)
 have hX := Sx.new w2 b
 have hk3 : Kept [] w2 (w2.alloc (.cells (stC b).toArray 145)) := (Kept.refl [] w2).alloc _
 obtain ⟨G, hG⟩ : ∃ G, w2.heap.size = G := ⟨_, rfl⟩
 have hGb : b < G := by rw [← hG]; exact H2.out.2.2.1.lt
 rw [hG] at hX ⊢
 have HGN := hide (show G = w2.heap.size from hG.symm)
 clear hG
 generalize w2.alloc (.cells (stC b).toArray 145) = w3 at hX hk3 ⊢
 have hA := OrdAt.new w3 0 0 wk0 wk0 (.slice none 0 0)
 have hk4 : Kept [] w3 (w3.alloc (.cells (ordC 0 0 wk0 wk0 (.slice none 0 0)).toArray 74)) := (Kept.refl [] w3).alloc _
 obtain ⟨Sg, hSg⟩ : ∃ Sg, w3.heap.size = Sg := ⟨_, rfl⟩
 have hSG : G < Sg := by rw [← hSg]; exact hX.lt
 rw [hSg] at hA
 go_upto_region 3 with (fail)
 have HSN := hide (show Sg = w3.heap.size from hSg.symm)
 clear hSg
 have hA : OrdAt (w3.alloc (.cells (ordC 0 0 wk0 wk0 (.slice none 0 0)).toArray 74)) Sg 0 0 wk0 wk0 (.slice none 0 0) := hA
 generalize w3.alloc (.cells (ordC 0 0 wk0 wk0 (.slice none 0 0)).toArray 74) = w4 at *
 have HX := hide (hX.kept hk4 (by simp))
 have HR4 := hide ((H2.out.2.2.1.later hk3).later hk4)
 have HK4 := hide (((HK.out.trans H2.out.2.2.2 (by simp)).trans hk3 (by simp)).trans hk4 (by simp))
 have HOUT : Hid (w4.heap[R]? = some (.cells (ordC 0 0 wk0 wk0 (.slice none 0 0)).toArray 74 (0, 0))) := by
  have hl := (Array.getElem?_eq_some_iff.1 hR0).1
  show _ = _
  rw [hk4.block R (Nat.lt_of_lt_of_le hl (Nat.le_trans H2.out.2.2.2.size hk3.size)) (by simp), hk3.block R (Nat.lt_of_lt_of_le hl H2.out.2.2.2.size) (by simp), H2.out.2.2.2.block R hl (by simp)]
  exact hR0
 have HBL : Hid (w.heap.size ≤ b ∧ R < b ∧ b < G ∧ G < Sg ∧ Sg < w4.heap.size ∧ ∀ a, ao' = some a → R < a.block ∧ (xs ≠ [] → a.block < G)) := by
  have h1 := (Array.getElem?_eq_some_iff.1 hR0).1
  have h2 := H2.out.1
  have h3 := HK.out.size
  have h4 := HGN.out
  refine ⟨by omega, by omega, hGb, hSG, hA.lt, fun a ha => ⟨by have := H2.out.2.1 a ha; omega, fun hx => ?_⟩⟩
  have := H2.out.2.2.1.blk hx a ha
  omega
 have HA := hide hA
 have cb := HX.out.cell
 have HNB : Hid (G ∉ [b]) := by have := HBL.out; show G ∉ [b]; simp; omega
 have HNS : Hid (G ∉ [b, Sg]) := by have := HBL.out; show G ∉ [b, Sg]; simp; omega
 have HSB : Hid (Sg ∉ [b]) := by have := HBL.out; show Sg ∉ [b]; simp; omega
 clear hX hk3 hk4 hA H2 HK hR0 hSG hGb hz hzs
 have k0 : Kept [] w4 (World.drew w4) := (Kept.refl [] w4).drew
 refine wp_region_held_drew (S := fun w' => Kept [b, Sg] w4 w') (by kernel_rfl) ((Kept.refl [b, Sg] w4).drew) (fun h0 => ?_)
 generalize World.drew w4 = v0 at h0 k0 ⊢
 refine wpAnyH_take (i := 0) (v := stV b) rfl (by kernel_rfl) (by kernel_rfl) (by kernel_rfl) (fun _ _ _ h => h) (yieldsIf_load_mid (by rfl) _ _ rfl G 0 rfl (stC b) _ (fun W h => (HX.out.kept h HNS.out).range) Tryz.underlying145 rfl Tryz.infoStrict) h0 ?_
 try simp only [z1, z2, z3, z4, z5, z6, z7, z8]
 refine wpAnyH_take (i := 2) (v := stV b) rfl (by kernel_rfl) (by kernel_rfl) (by kernel_rfl) (fun _ _ _ h => h) (yieldsIf_load_mid (by rfl) _ _ rfl G 0 rfl (stC b) _ (fun W h => (HX.out.kept h HNS.out).range) Tryz.underlying145 rfl Tryz.infoStrict) h0 ?_
 try simp only [z1, z2, z3, z4, z5, z6, z7, z8]
 have hr0 := HR4.out.later k0
 have kk0 : Kept [b] w4 v0 := k0.mono (by simp)
 clear k0
 refine wpAnyH_ready (rs := [1]) (by kernel_rfl) (by simp) (AllReadyH.cons (i := 1) rfl (fun K hK => ?_) AllReadyH.nil)
 rw [if_pos (by rfl)]
 go_simp
 refine (width_yes hr0 hW).mono ?_
 rintro e v1 ⟨rfl, hr1, hq⟩
 have kk1 := kk0.trans hq (by simp)
 refine hK.out _ _ (h0.trans hq (by simp)) (fun h1 => ?_)
 clear hK K
 try simp only [z1, z2, z3, z4, z5, z6, z7, z8]
 clear hq hr0 kk0 h0
 refine wpAnyH_take (i := 4) (v := .pointer (some ⟨Sg, 0, none⟩)) rfl (by kernel_rfl) (by kernel_rfl) (by kernel_rfl) (fun _ _ _ h => h) (Or.inl ⟨by rfl, fun w hSw => by go_simp⟩) h1 ?_
 try simp only [z1, z2, z3, z4, z5, z6, z7, z8]
 refine wpAnyH_ready (rs := [3]) (by kernel_rfl) (by simp) (AllReadyH.cons (i := 3) rfl (fun K hK => ?_) AllReadyH.nil)
 rw [if_pos (by rfl)]
 go_simp
 refine (size_no hr1 hZ).mono ?_
 rintro e vx ⟨rfl, hq⟩
 exact ⟨rfl, rfl, HK4.out.trans (h1.trans hq (by simp)) (fun i hi hl => by simp only [List.mem_cons, List.not_mem_nil, or_false] at hi; have := HBL.out; omega)⟩
set_option maxHeartbeats 6400000 in
set_option maxRecDepth 100000 in
theorem readOrd_base (ao : Option Addr) (n cap : Nat) (xs : List UInt8) (w : World) (hn : xs.length = n) (hc : n ≤ cap) (hm : n ≤ 131072) (hs : Sl w ao xs) (h0 : ao = none → xs = [] ∧ cap = 0) (hmk : mk xs = 68) (hW : Dlt.isW (stNumber xs (s1 xs)).1 = true) (hZ : Dlt.isZ (stNumber xs (stNumber xs (s1 xs)).2).1 = true) (hB : Dlt.within (stNumber xs (stNumber xs (stNumber xs (s1 xs)).2).2).1 0 131072 = false) :
  Calls Tryz.prog 49 #[.slice ao n cap] w fun e w' => e = gaveUp8 ∧ Kept [] w w' := by
 have hz := Tryz.zeroOrd
 have hzs := Tryz.zeroStrict
 have hK : Kept [] w (w.alloc (.cells (ordC 0 0 wk0 wk0 (.slice none 0 0)).toArray 74)) := (Kept.refl [] w).alloc _
 have hR0 := heap_new w (.cells (ordC 0 0 wk0 wk0 (.slice none 0 0)).toArray 74)
 have hop := open_yes ao n cap 68 xs (w.alloc (.cells (ordC 0 0 wk0 wk0 (.slice none 0 0)).toArray 74)) hn hm (hs.kept hK (by simp)) h0 hmk
 have HD := hide (And.intro hn (And.intro hc (And.intro hm hs)))
 have HK := hide hK
 clear hn hc hs h0 hmk hK
 obtain ⟨R, hR⟩ : ∃ R, w.heap.size = R := ⟨_, rfl⟩
 rw [hR] at hR0
 go_enter Tryz.func49, Tryz.ntmps49
 go_upto_region 1 with (fail)
 have HRW := hide hR
 clear hR
 generalize w.alloc (.cells (ordC 0 0 wk0 wk0 (.slice none 0 0)).toArray 74) = w1 at *
 go_upto_region 2 with (go_at_call 86; refine hop.mono ?_; rintro r w2 ⟨b, ao', cap', rfl, hb, hbl, hrd, hk2⟩; have H2 := hide (And.intro hb (And.intro hbl (And.intro hrd hk2))); clear hop hb hbl hrd hk2)
 have hX := Sx.new w2 b
 have hk3 : Kept [] w2 (w2.alloc (.cells (stC b).toArray 145)) := (Kept.refl [] w2).alloc _
 obtain ⟨G, hG⟩ : ∃ G, w2.heap.size = G := ⟨_, rfl⟩
 have hGb : b < G := by rw [← hG]; exact H2.out.2.2.1.lt
 rw [hG] at hX ⊢
 have HGN := hide (show G = w2.heap.size from hG.symm)
 clear hG
 generalize w2.alloc (.cells (stC b).toArray 145) = w3 at hX hk3 ⊢
 have hA := OrdAt.new w3 0 0 wk0 wk0 (.slice none 0 0)
 have hk4 : Kept [] w3 (w3.alloc (.cells (ordC 0 0 wk0 wk0 (.slice none 0 0)).toArray 74)) := (Kept.refl [] w3).alloc _
 obtain ⟨Sg, hSg⟩ : ∃ Sg, w3.heap.size = Sg := ⟨_, rfl⟩
 have hSG : G < Sg := by rw [← hSg]; exact hX.lt
 rw [hSg] at hA
 go_upto_region 3 with (fail)
 have HSN := hide (show Sg = w3.heap.size from hSg.symm)
 clear hSg
 have hA : OrdAt (w3.alloc (.cells (ordC 0 0 wk0 wk0 (.slice none 0 0)).toArray 74)) Sg 0 0 wk0 wk0 (.slice none 0 0) := hA
 generalize w3.alloc (.cells (ordC 0 0 wk0 wk0 (.slice none 0 0)).toArray 74) = w4 at *
 have HX := hide (hX.kept hk4 (by simp))
 have HR4 := hide ((H2.out.2.2.1.later hk3).later hk4)
 have HK4 := hide (((HK.out.trans H2.out.2.2.2 (by simp)).trans hk3 (by simp)).trans hk4 (by simp))
 have HOUT : Hid (w4.heap[R]? = some (.cells (ordC 0 0 wk0 wk0 (.slice none 0 0)).toArray 74 (0, 0))) := by
  have hl := (Array.getElem?_eq_some_iff.1 hR0).1
  show _ = _
  rw [hk4.block R (Nat.lt_of_lt_of_le hl (Nat.le_trans H2.out.2.2.2.size hk3.size)) (by simp), hk3.block R (Nat.lt_of_lt_of_le hl H2.out.2.2.2.size) (by simp), H2.out.2.2.2.block R hl (by simp)]
  exact hR0
 have HBL : Hid (w.heap.size ≤ b ∧ R < b ∧ b < G ∧ G < Sg ∧ Sg < w4.heap.size ∧ ∀ a, ao' = some a → R < a.block ∧ (xs ≠ [] → a.block < G)) := by
  have h1 := (Array.getElem?_eq_some_iff.1 hR0).1
  have h2 := H2.out.1
  have h3 := HK.out.size
  have h4 := HGN.out
  refine ⟨by omega, by omega, hGb, hSG, hA.lt, fun a ha => ⟨by have := H2.out.2.1 a ha; omega, fun hx => ?_⟩⟩
  have := H2.out.2.2.1.blk hx a ha
  omega
 have HA := hide hA
 have cb := HX.out.cell
 have HNB : Hid (G ∉ [b]) := by have := HBL.out; show G ∉ [b]; simp; omega
 have HNS : Hid (G ∉ [b, Sg]) := by have := HBL.out; show G ∉ [b, Sg]; simp; omega
 have HSB : Hid (Sg ∉ [b]) := by have := HBL.out; show Sg ∉ [b]; simp; omega
 clear hX hk3 hk4 hA H2 HK hR0 hSG hGb hz hzs
 have k0 : Kept [] w4 (World.drew w4) := (Kept.refl [] w4).drew
 refine wp_region_held_drew (S := fun w' => Kept [b, Sg] w4 w') (by kernel_rfl) ((Kept.refl [b, Sg] w4).drew) (fun h0 => ?_)
 generalize World.drew w4 = v0 at h0 k0 ⊢
 refine wpAnyH_take (i := 0) (v := stV b) rfl (by kernel_rfl) (by kernel_rfl) (by kernel_rfl) (fun _ _ _ h => h) (yieldsIf_load_mid (by rfl) _ _ rfl G 0 rfl (stC b) _ (fun W h => (HX.out.kept h HNS.out).range) Tryz.underlying145 rfl Tryz.infoStrict) h0 ?_
 try simp only [z1, z2, z3, z4, z5, z6, z7, z8]
 refine wpAnyH_take (i := 2) (v := stV b) rfl (by kernel_rfl) (by kernel_rfl) (by kernel_rfl) (fun _ _ _ h => h) (yieldsIf_load_mid (by rfl) _ _ rfl G 0 rfl (stC b) _ (fun W h => (HX.out.kept h HNS.out).range) Tryz.underlying145 rfl Tryz.infoStrict) h0 ?_
 try simp only [z1, z2, z3, z4, z5, z6, z7, z8]
 have hr0 := HR4.out.later k0
 have kk0 : Kept [b] w4 v0 := k0.mono (by simp)
 clear k0
 refine wpAnyH_ready (rs := [1]) (by kernel_rfl) (by simp) (AllReadyH.cons (i := 1) rfl (fun K hK => ?_) AllReadyH.nil)
 rw [if_pos (by rfl)]
 go_simp
 refine (width_yes hr0 hW).mono ?_
 rintro e v1 ⟨rfl, hr1, hq⟩
 have kk1 := kk0.trans hq (by simp)
 refine hK.out _ _ (h0.trans hq (by simp)) (fun h1 => ?_)
 clear hK K
 try simp only [z1, z2, z3, z4, z5, z6, z7, z8]
 clear hq hr0 kk0 h0
 refine wpAnyH_take (i := 4) (v := .pointer (some ⟨Sg, 0, none⟩)) rfl (by kernel_rfl) (by kernel_rfl) (by kernel_rfl) (fun _ _ _ h => h) (Or.inl ⟨by rfl, fun w hSw => by go_simp⟩) h1 ?_
 try simp only [z1, z2, z3, z4, z5, z6, z7, z8]
 refine wpAnyH_ready (rs := [3]) (by kernel_rfl) (by simp) (AllReadyH.cons (i := 3) rfl (fun K hK => ?_) AllReadyH.nil)
 rw [if_pos (by rfl)]
 go_simp
 refine (size_yes hr1 hZ).mono ?_
 rintro e v2 ⟨rfl, hr2, hq⟩
 have kk2 := kk1.trans hq (by simp)
 refine hK.out _ _ (h1.trans hq (by simp)) (fun h2 => ?_)
 clear hK K
 try simp only [z1, z2, z3, z4, z5, z6, z7, z8]
 clear hq hr1 kk1 h1
 have hA2 := HA.out.kept kk2 HSB.out
 have f0 := hA2.fr 0
 have c0 := hA2.c (j := 0) (u := .int .i64 0) rfl
 have hA3 := hA2.setW (nW xs)
 have f1 := hA3.fr 1
 have c1 := hA3.c (j := 1) (u := .int .i64 0) rfl
 have hA4 := hA3.setZ (nZ xs)
 simp only [show (stNumber xs (s1 xs)).1 = nW xs from rfl, show (stNumber xs (stNumber xs (s1 xs)).2).1 = nZ xs from rfl]
 refine wpAnyH_ready (rs := [5]) (by kernel_rfl) (by simp) (AllReadyH.cons (i := 5) rfl (fun K hK => ?_) AllReadyH.nil)
 rw [if_pos (by rfl)]
 go_simp
 refine hK.out _ _ (h2.setCell (by simp) _) (fun h3 => ?_)
 clear hK K h2
 try simp only [z1, z2, z3, z4, z5, z6, z7, z8]
 refine wpAnyH_take (i := 6) (v := .pointer (some ⟨Sg, 1, none⟩)) rfl (by kernel_rfl) (by kernel_rfl) (by kernel_rfl) (fun _ _ _ h => h) (Or.inl ⟨by rfl, fun w hSw => by go_simp⟩) h3 ?_
 try simp only [z1, z2, z3, z4, z5, z6, z7, z8]
 refine wpAnyH_ready (rs := [7]) (by kernel_rfl) (by simp) (AllReadyH.cons (i := 7) rfl (fun K hK => ?_) AllReadyH.nil)
 rw [if_pos (by rfl)]
 go_simp
 refine hK.out _ _ (h3.setCell (by simp) _) (fun h4 => ?_)
 clear hK K h3
 try simp only [z1, z2, z3, z4, z5, z6, z7, z8]
 refine wpAnyH_done (by kernel_rfl) ?_ _
 have k6 : Kept [Sg] v2 ((v2.setCell ⟨Sg, 0, none⟩ (.int .i64 (nW xs))).setCell ⟨Sg, 1, none⟩ (.int .i64 (nZ xs))) := ((Kept.refl [Sg] v2).setCell (by simp) _).setCell (by simp) _
 have HR5 : Hid (RdS ((v2.setCell ⟨Sg, 0, none⟩ (.int .i64 (nW xs))).setCell ⟨Sg, 1, none⟩ (.int .i64 (nZ xs))) b ao' cap' xs (stNumber xs (stNumber xs (s1 xs)).2).2) := hr2.kept k6 (by have := HBL.out; simp; omega) (fun hx a ha => by have h1 := HBL.out.2.2.2.2.2 a ha; have h2 := HBL.out; have := h1.2 hx; simp; omega)
 have HK5 : Hid (Kept [b, Sg] w4 ((v2.setCell ⟨Sg, 0, none⟩ (.int .i64 (nW xs))).setCell ⟨Sg, 1, none⟩ (.int .i64 (nZ xs)))) := (kk2.mono (by simp)).trans k6 (by simp)
 have HA5 := hide hA4
 clear k6 hr2 kk2 hA2 hA3 hA4 f0 f1 c0 c1 HA HR4
 generalize (v2.setCell ⟨Sg, 0, none⟩ (.int .i64 (nW xs))).setCell ⟨Sg, 1, none⟩ (.int .i64 (nZ xs)) = w5 at *
 have HX5 := hide (HX.out.kept HK5.out HNS.out)
 obtain ⟨W, hWn⟩ := Int.eq_ofNat_of_zero_le (show 0 ≤ nW xs by have := (Dlt.within_iff.1 (show Dlt.within (nW xs) 1 32 = true from hW)).1; omega)
 have hW32 : W ≤ 32 := by have := (Dlt.within_iff.1 (show Dlt.within (nW xs) 1 32 = true from hW)).2; omega
 rw [hWn] at HA5
 have cW := HA5.out.c (j := 0) (u := .int .i64 W) rfl
 have HWN := hide hWn
 clear hWn hW hZ
 go_wp2
 have k0 : Kept [] w5 (World.drew w5) := (Kept.refl [] w5).drew
 refine wp_region_held_drew (S := fun w' => Kept [b] w5 w') (by kernel_rfl) ((Kept.refl [b] w5).drew) (fun h0 => ?_)
 generalize World.drew w5 = v0 at h0 k0 ⊢
 refine wpAnyH_take (i := 0) (v := stV b) rfl (by kernel_rfl) (by kernel_rfl) (by kernel_rfl) (fun _ _ _ h => h) (yieldsIf_load_mid (by rfl) _ _ rfl G 0 rfl (stC b) _ (fun W h => (HX5.out.kept h HNB.out).range) Tryz.underlying145 rfl Tryz.infoStrict) h0 ?_
 try simp only [z1, z2, z3, z4, z5, z6, z7, z8]
 refine wpAnyH_take (i := 1) (v := .pointer (some ⟨Sg, 0, none⟩)) rfl (by kernel_rfl) (by kernel_rfl) (by kernel_rfl) (fun _ _ _ h => h) (Or.inl ⟨by rfl, fun w hSw => by go_simp⟩) h0 ?_
 try simp only [z1, z2, z3, z4, z5, z6, z7, z8]
 refine wpAnyH_take (i := 2) (v := .int .i64 W) rfl (by kernel_rfl) (by kernel_rfl) (by kernel_rfl) (fun _ _ _ h => h) (Or.inl ⟨by rfl, fun w hSw => by have c0 := Kept.cellOf hSw cW HSB.out; go_simp⟩) h0 ?_
 try simp only [z1, z2, z3, z4, z5, z6, z7, z8]
 refine wpAnyH_take (i := 4) (v := stV b) rfl (by kernel_rfl) (by kernel_rfl) (by kernel_rfl) (fun _ _ _ h => h) (yieldsIf_load_mid (by rfl) _ _ rfl G 0 rfl (stC b) _ (fun W h => (HX5.out.kept h HNB.out).range) Tryz.underlying145 rfl Tryz.infoStrict) h0 ?_
 try simp only [z1, z2, z3, z4, z5, z6, z7, z8]
 refine wpAnyH_take (i := 5) (v := .pointer (some ⟨Sg, 0, none⟩)) rfl (by kernel_rfl) (by kernel_rfl) (by kernel_rfl) (fun _ _ _ h => h) (Or.inl ⟨by rfl, fun w hSw => by go_simp⟩) h0 ?_
 try simp only [z1, z2, z3, z4, z5, z6, z7, z8]
 refine wpAnyH_take (i := 6) (v := .int .i64 W) rfl (by kernel_rfl) (by kernel_rfl) (by kernel_rfl) (fun _ _ _ h => h) (Or.inl ⟨by rfl, fun w hSw => by have c0 := Kept.cellOf hSw cW HSB.out; go_simp⟩) h0 ?_
 try simp only [z1, z2, z3, z4, z5, z6, z7, z8]
 have hr0 := HR5.out.later k0
 clear k0
 refine wpAnyH_ready (rs := [3]) (by kernel_rfl) (by simp) (AllReadyH.cons (i := 3) rfl (fun K hK => ?_) AllReadyH.nil)
 rw [if_pos (by rfl)]
 go_simp
 refine (seal_no hr0 W hB).mono ?_
 rintro e vx ⟨rfl, hq⟩
 exact ⟨rfl, rfl, HK4.out.trans (HK5.out.trans (h0.trans hq (by simp)) (by simp)) (fun i hi hl => by simp only [List.mem_cons, List.not_mem_nil, or_false] at hi; have := HBL.out; omega)⟩
set_option maxHeartbeats 6400000 in
set_option maxRecDepth 100000 in
theorem readOrd_targ (ao : Option Addr) (n cap : Nat) (xs : List UInt8) (w : World) (hn : xs.length = n) (hc : n ≤ cap) (hm : n ≤ 131072) (hs : Sl w ao xs) (h0 : ao = none → xs = [] ∧ cap = 0) (hmk : mk xs = 68) (hW : Dlt.isW (stNumber xs (s1 xs)).1 = true) (hZ : Dlt.isZ (stNumber xs (stNumber xs (s1 xs)).2).1 = true) (hB : Dlt.within (stNumber xs (stNumber xs (stNumber xs (s1 xs)).2).2).1 0 131072 = true) (hT : Dlt.within (stNumber xs (stRaw xs (stNumber xs (stNumber xs (stNumber xs (s1 xs)).2).2).2 (nW xs)).2).1 0 131072 = false) :
  Calls Tryz.prog 49 #[.slice ao n cap] w fun e w' => e = gaveUp8 ∧ Kept [] w w' := by
 have hz := Tryz.zeroOrd
 have hzs := Tryz.zeroStrict
 have hK : Kept [] w (w.alloc (.cells (ordC 0 0 wk0 wk0 (.slice none 0 0)).toArray 74)) := (Kept.refl [] w).alloc _
 have hR0 := heap_new w (.cells (ordC 0 0 wk0 wk0 (.slice none 0 0)).toArray 74)
 have hop := open_yes ao n cap 68 xs (w.alloc (.cells (ordC 0 0 wk0 wk0 (.slice none 0 0)).toArray 74)) hn hm (hs.kept hK (by simp)) h0 hmk
 have HD := hide (And.intro hn (And.intro hc (And.intro hm hs)))
 have HK := hide hK
 clear hn hc hs h0 hmk hK
 obtain ⟨R, hR⟩ : ∃ R, w.heap.size = R := ⟨_, rfl⟩
 rw [hR] at hR0
 go_enter Tryz.func49, Tryz.ntmps49
 go_upto_region 1 with (fail)
 have HRW := hide hR
 clear hR
 generalize w.alloc (.cells (ordC 0 0 wk0 wk0 (.slice none 0 0)).toArray 74) = w1 at *
 go_upto_region 2 with (go_at_call 86; refine hop.mono ?_; rintro r w2 ⟨b, ao', cap', rfl, hb, hbl, hrd, hk2⟩; have H2 := hide (And.intro hb (And.intro hbl (And.intro hrd hk2))); clear hop hb hbl hrd hk2)
 have hX := Sx.new w2 b
 have hk3 : Kept [] w2 (w2.alloc (.cells (stC b).toArray 145)) := (Kept.refl [] w2).alloc _
 obtain ⟨G, hG⟩ : ∃ G, w2.heap.size = G := ⟨_, rfl⟩
 have hGb : b < G := by rw [← hG]; exact H2.out.2.2.1.lt
 rw [hG] at hX ⊢
 have HGN := hide (show G = w2.heap.size from hG.symm)
 clear hG
 generalize w2.alloc (.cells (stC b).toArray 145) = w3 at hX hk3 ⊢
 have hA := OrdAt.new w3 0 0 wk0 wk0 (.slice none 0 0)
 have hk4 : Kept [] w3 (w3.alloc (.cells (ordC 0 0 wk0 wk0 (.slice none 0 0)).toArray 74)) := (Kept.refl [] w3).alloc _
 obtain ⟨Sg, hSg⟩ : ∃ Sg, w3.heap.size = Sg := ⟨_, rfl⟩
 have hSG : G < Sg := by rw [← hSg]; exact hX.lt
 rw [hSg] at hA
 go_upto_region 3 with (fail)
 have HSN := hide (show Sg = w3.heap.size from hSg.symm)
 clear hSg
 have hA : OrdAt (w3.alloc (.cells (ordC 0 0 wk0 wk0 (.slice none 0 0)).toArray 74)) Sg 0 0 wk0 wk0 (.slice none 0 0) := hA
 generalize w3.alloc (.cells (ordC 0 0 wk0 wk0 (.slice none 0 0)).toArray 74) = w4 at *
 have HX := hide (hX.kept hk4 (by simp))
 have HR4 := hide ((H2.out.2.2.1.later hk3).later hk4)
 have HK4 := hide (((HK.out.trans H2.out.2.2.2 (by simp)).trans hk3 (by simp)).trans hk4 (by simp))
 have HOUT : Hid (w4.heap[R]? = some (.cells (ordC 0 0 wk0 wk0 (.slice none 0 0)).toArray 74 (0, 0))) := by
  have hl := (Array.getElem?_eq_some_iff.1 hR0).1
  show _ = _
  rw [hk4.block R (Nat.lt_of_lt_of_le hl (Nat.le_trans H2.out.2.2.2.size hk3.size)) (by simp), hk3.block R (Nat.lt_of_lt_of_le hl H2.out.2.2.2.size) (by simp), H2.out.2.2.2.block R hl (by simp)]
  exact hR0
 have HBL : Hid (w.heap.size ≤ b ∧ R < b ∧ b < G ∧ G < Sg ∧ Sg < w4.heap.size ∧ ∀ a, ao' = some a → R < a.block ∧ (xs ≠ [] → a.block < G)) := by
  have h1 := (Array.getElem?_eq_some_iff.1 hR0).1
  have h2 := H2.out.1
  have h3 := HK.out.size
  have h4 := HGN.out
  refine ⟨by omega, by omega, hGb, hSG, hA.lt, fun a ha => ⟨by have := H2.out.2.1 a ha; omega, fun hx => ?_⟩⟩
  have := H2.out.2.2.1.blk hx a ha
  omega
 have HA := hide hA
 have cb := HX.out.cell
 have HNB : Hid (G ∉ [b]) := by have := HBL.out; show G ∉ [b]; simp; omega
 have HNS : Hid (G ∉ [b, Sg]) := by have := HBL.out; show G ∉ [b, Sg]; simp; omega
 have HSB : Hid (Sg ∉ [b]) := by have := HBL.out; show Sg ∉ [b]; simp; omega
 clear hX hk3 hk4 hA H2 HK hR0 hSG hGb hz hzs
 have k0 : Kept [] w4 (World.drew w4) := (Kept.refl [] w4).drew
 refine wp_region_held_drew (S := fun w' => Kept [b, Sg] w4 w') (by kernel_rfl) ((Kept.refl [b, Sg] w4).drew) (fun h0 => ?_)
 generalize World.drew w4 = v0 at h0 k0 ⊢
 refine wpAnyH_take (i := 0) (v := stV b) rfl (by kernel_rfl) (by kernel_rfl) (by kernel_rfl) (fun _ _ _ h => h) (yieldsIf_load_mid (by rfl) _ _ rfl G 0 rfl (stC b) _ (fun W h => (HX.out.kept h HNS.out).range) Tryz.underlying145 rfl Tryz.infoStrict) h0 ?_
 try simp only [z1, z2, z3, z4, z5, z6, z7, z8]
 refine wpAnyH_take (i := 2) (v := stV b) rfl (by kernel_rfl) (by kernel_rfl) (by kernel_rfl) (fun _ _ _ h => h) (yieldsIf_load_mid (by rfl) _ _ rfl G 0 rfl (stC b) _ (fun W h => (HX.out.kept h HNS.out).range) Tryz.underlying145 rfl Tryz.infoStrict) h0 ?_
 try simp only [z1, z2, z3, z4, z5, z6, z7, z8]
 have hr0 := HR4.out.later k0
 have kk0 : Kept [b] w4 v0 := k0.mono (by simp)
 clear k0
 refine wpAnyH_ready (rs := [1]) (by kernel_rfl) (by simp) (AllReadyH.cons (i := 1) rfl (fun K hK => ?_) AllReadyH.nil)
 rw [if_pos (by rfl)]
 go_simp
 refine (width_yes hr0 hW).mono ?_
 rintro e v1 ⟨rfl, hr1, hq⟩
 have kk1 := kk0.trans hq (by simp)
 refine hK.out _ _ (h0.trans hq (by simp)) (fun h1 => ?_)
 clear hK K
 try simp only [z1, z2, z3, z4, z5, z6, z7, z8]
 clear hq hr0 kk0 h0
 refine wpAnyH_take (i := 4) (v := .pointer (some ⟨Sg, 0, none⟩)) rfl (by kernel_rfl) (by kernel_rfl) (by kernel_rfl) (fun _ _ _ h => h) (Or.inl ⟨by rfl, fun w hSw => by go_simp⟩) h1 ?_
 try simp only [z1, z2, z3, z4, z5, z6, z7, z8]
 refine wpAnyH_ready (rs := [3]) (by kernel_rfl) (by simp) (AllReadyH.cons (i := 3) rfl (fun K hK => ?_) AllReadyH.nil)
 rw [if_pos (by rfl)]
 go_simp
 refine (size_yes hr1 hZ).mono ?_
 rintro e v2 ⟨rfl, hr2, hq⟩
 have kk2 := kk1.trans hq (by simp)
 refine hK.out _ _ (h1.trans hq (by simp)) (fun h2 => ?_)
 clear hK K
 try simp only [z1, z2, z3, z4, z5, z6, z7, z8]
 clear hq hr1 kk1 h1
 have hA2 := HA.out.kept kk2 HSB.out
 have f0 := hA2.fr 0
 have c0 := hA2.c (j := 0) (u := .int .i64 0) rfl
 have hA3 := hA2.setW (nW xs)
 have f1 := hA3.fr 1
 have c1 := hA3.c (j := 1) (u := .int .i64 0) rfl
 have hA4 := hA3.setZ (nZ xs)
 simp only [show (stNumber xs (s1 xs)).1 = nW xs from rfl, show (stNumber xs (stNumber xs (s1 xs)).2).1 = nZ xs from rfl]
 refine wpAnyH_ready (rs := [5]) (by kernel_rfl) (by simp) (AllReadyH.cons (i := 5) rfl (fun K hK => ?_) AllReadyH.nil)
 rw [if_pos (by rfl)]
 go_simp
 refine hK.out _ _ (h2.setCell (by simp) _) (fun h3 => ?_)
 clear hK K h2
 try simp only [z1, z2, z3, z4, z5, z6, z7, z8]
 refine wpAnyH_take (i := 6) (v := .pointer (some ⟨Sg, 1, none⟩)) rfl (by kernel_rfl) (by kernel_rfl) (by kernel_rfl) (fun _ _ _ h => h) (Or.inl ⟨by rfl, fun w hSw => by go_simp⟩) h3 ?_
 try simp only [z1, z2, z3, z4, z5, z6, z7, z8]
 refine wpAnyH_ready (rs := [7]) (by kernel_rfl) (by simp) (AllReadyH.cons (i := 7) rfl (fun K hK => ?_) AllReadyH.nil)
 rw [if_pos (by rfl)]
 go_simp
 refine hK.out _ _ (h3.setCell (by simp) _) (fun h4 => ?_)
 clear hK K h3
 try simp only [z1, z2, z3, z4, z5, z6, z7, z8]
 refine wpAnyH_done (by kernel_rfl) ?_ _
 have k6 : Kept [Sg] v2 ((v2.setCell ⟨Sg, 0, none⟩ (.int .i64 (nW xs))).setCell ⟨Sg, 1, none⟩ (.int .i64 (nZ xs))) := ((Kept.refl [Sg] v2).setCell (by simp) _).setCell (by simp) _
 have HR5 : Hid (RdS ((v2.setCell ⟨Sg, 0, none⟩ (.int .i64 (nW xs))).setCell ⟨Sg, 1, none⟩ (.int .i64 (nZ xs))) b ao' cap' xs (stNumber xs (stNumber xs (s1 xs)).2).2) := hr2.kept k6 (by have := HBL.out; simp; omega) (fun hx a ha => by have h1 := HBL.out.2.2.2.2.2 a ha; have h2 := HBL.out; have := h1.2 hx; simp; omega)
 have HK5 : Hid (Kept [b, Sg] w4 ((v2.setCell ⟨Sg, 0, none⟩ (.int .i64 (nW xs))).setCell ⟨Sg, 1, none⟩ (.int .i64 (nZ xs)))) := (kk2.mono (by simp)).trans k6 (by simp)
 have HA5 := hide hA4
 clear k6 hr2 kk2 hA2 hA3 hA4 f0 f1 c0 c1 HA HR4
 generalize (v2.setCell ⟨Sg, 0, none⟩ (.int .i64 (nW xs))).setCell ⟨Sg, 1, none⟩ (.int .i64 (nZ xs)) = w5 at *
 have HX5 := hide (HX.out.kept HK5.out HNS.out)
 obtain ⟨W, hWn⟩ := Int.eq_ofNat_of_zero_le (show 0 ≤ nW xs by have := (Dlt.within_iff.1 (show Dlt.within (nW xs) 1 32 = true from hW)).1; omega)
 have hW32 : W ≤ 32 := by have := (Dlt.within_iff.1 (show Dlt.within (nW xs) 1 32 = true from hW)).2; omega
 rw [hWn] at HA5
 have cW := HA5.out.c (j := 0) (u := .int .i64 W) rfl
 have HWN := hide hWn
 clear hWn hW hZ
 go_wp2
 rw [HWN.out] at hT
 have k0 : Kept [] w5 (World.drew w5) := (Kept.refl [] w5).drew
 refine wp_region_held_drew (S := fun w' => Kept [b] w5 w') (by kernel_rfl) ((Kept.refl [b] w5).drew) (fun h0 => ?_)
 generalize World.drew w5 = v0 at h0 k0 ⊢
 refine wpAnyH_take (i := 0) (v := stV b) rfl (by kernel_rfl) (by kernel_rfl) (by kernel_rfl) (fun _ _ _ h => h) (yieldsIf_load_mid (by rfl) _ _ rfl G 0 rfl (stC b) _ (fun W h => (HX5.out.kept h HNB.out).range) Tryz.underlying145 rfl Tryz.infoStrict) h0 ?_
 try simp only [z1, z2, z3, z4, z5, z6, z7, z8]
 refine wpAnyH_take (i := 1) (v := .pointer (some ⟨Sg, 0, none⟩)) rfl (by kernel_rfl) (by kernel_rfl) (by kernel_rfl) (fun _ _ _ h => h) (Or.inl ⟨by rfl, fun w hSw => by go_simp⟩) h0 ?_
 try simp only [z1, z2, z3, z4, z5, z6, z7, z8]
 refine wpAnyH_take (i := 2) (v := .int .i64 W) rfl (by kernel_rfl) (by kernel_rfl) (by kernel_rfl) (fun _ _ _ h => h) (Or.inl ⟨by rfl, fun w hSw => by have c0 := Kept.cellOf hSw cW HSB.out; go_simp⟩) h0 ?_
 try simp only [z1, z2, z3, z4, z5, z6, z7, z8]
 refine wpAnyH_take (i := 4) (v := stV b) rfl (by kernel_rfl) (by kernel_rfl) (by kernel_rfl) (fun _ _ _ h => h) (yieldsIf_load_mid (by rfl) _ _ rfl G 0 rfl (stC b) _ (fun W h => (HX5.out.kept h HNB.out).range) Tryz.underlying145 rfl Tryz.infoStrict) h0 ?_
 try simp only [z1, z2, z3, z4, z5, z6, z7, z8]
 refine wpAnyH_take (i := 5) (v := .pointer (some ⟨Sg, 0, none⟩)) rfl (by kernel_rfl) (by kernel_rfl) (by kernel_rfl) (fun _ _ _ h => h) (Or.inl ⟨by rfl, fun w hSw => by go_simp⟩) h0 ?_
 try simp only [z1, z2, z3, z4, z5, z6, z7, z8]
 refine wpAnyH_take (i := 6) (v := .int .i64 W) rfl (by kernel_rfl) (by kernel_rfl) (by kernel_rfl) (fun _ _ _ h => h) (Or.inl ⟨by rfl, fun w hSw => by have c0 := Kept.cellOf hSw cW HSB.out; go_simp⟩) h0 ?_
 try simp only [z1, z2, z3, z4, z5, z6, z7, z8]
 have hr0 := HR5.out.later k0
 clear k0
 obtain ⟨bk, hbk1, hbk2⟩ := sealK xs (stNumber xs (stNumber xs (s1 xs)).2).2 W hB
 refine wpAnyH_ready (rs := [3]) (by kernel_rfl) (by simp) (AllReadyH.cons (i := 3) rfl (fun K hK => ?_) AllReadyH.nil)
 rw [if_pos (by rfl)]
 go_simp
 refine (seal_yes hr0 W hW32 hB bk hbk1 hbk2).mono ?_
 rintro e v1 ⟨rfl, hr1, hq⟩
 refine hK.out _ _ (h0.trans hq (by simp)) (fun h1 => ?_)
 clear hK K
 try simp only [z1, z2, z3, z4, z5, z6, z7, z8]
 clear hq hr0 h0
 refine wpAnyH_take (i := 8) (v := .pointer (some ⟨Sg, 2, none⟩)) rfl (by kernel_rfl) (by kernel_rfl) (by kernel_rfl) (fun _ _ _ h => h) (Or.inl ⟨by rfl, fun w hSw => by go_simp⟩) h1 ?_
 try simp only [z1, z2, z3, z4, z5, z6, z7, z8]
 refine wpAnyH_ready (rs := [7]) (by kernel_rfl) (by simp) (AllReadyH.cons (i := 7) rfl (fun K hK => ?_) AllReadyH.nil)
 rw [if_pos (by rfl)]
 go_simp
 refine (seal_no hr1 W hT).mono ?_
 rintro e vx ⟨rfl, hq⟩
 exact ⟨rfl, rfl, HK4.out.trans (HK5.out.trans (h1.trans hq (by simp)) (by simp)) (fun i hi hl => by simp only [List.mem_cons, List.not_mem_nil, or_false] at hi; have := HBL.out; omega)⟩
end Go.Proofs.YtmklodligplbaabGreat
