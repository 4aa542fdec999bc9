import Derived.Test.YtmklodligplbaaaGreatD9jm
import Derived.Test.YtmklodligplbaaaGreatD8pm
open Go.RowKit
set_option linter.unusedVariables false
set_option linter.unusedSimpArgs false
set_option maxRecDepth 100000
set_option maxHeartbeats 51200000
namespace Go.Proofs.YtmklodligplbaaaGreat
open Dlt
theorem sealK (xs : List UInt8) (s : Rs) (W : Nat) (h : Dlt.within (stNumber xs s).1 0 131072 = true) : ∃ k : Wk, k.sum = (stNumber xs s).1 ∧ k.id = pad (stRaw xs (stNumber xs s).2 W).1 := by
 obtain ⟨h1, h2⟩ := Dlt.within_iff.1 h
 exact ⟨⟨(stNumber xs s).1, pad (stRaw xs (stNumber xs s).2 W).1, pad_len _, wf64 (by omega) (by omega)⟩, rfl, rfl⟩
theorem readOrd_long (ao : Option Addr) (n cap : Nat) (w : World) (hn : 131072 < n) :
  Calls Tryz.prog 41 #[.slice ao n cap] w fun e w' => e = gaveUp8 ∧ Kept [] w w' := by
 have hz := Tryz.zeroOrd
 have hK := ka w (.cells (ordC 0 0 wk0 wk0 (.slice none 0 0)).toArray 71)
 have hop := open_long ao n cap 68 (w.alloc (.cells (ordC 0 0 wk0 wk0 (.slice none 0 0)).toArray 71)) hn
 clear hn
 go_enter Tryz.func41, Tryz.ntmps41
 go_wp2_with (go_at_call 48; refine hop.mono ?_; rintro r w2 ⟨rfl, hk2⟩; have H2 := hide hk2; clear hop hk2)
 exact ⟨rfl, rfl, hK.tr H2.out⟩
theorem readOrd_mark (ao : Option Addr) (n cap : Nat) (xs : List UInt8) (w : World) (hn : xs.length = n) (hm : n <= 131072) (hs : Sl w ao xs) (h0 : ao = none -> xs = [] ∧ cap = 0) (hmk : mk xs ≠ 68) :
  Calls Tryz.prog 41 #[.slice ao n cap] w fun e w' => e = gaveUp8 ∧ Kept [] w w' := by
 have hz := Tryz.zeroOrd
 have hK := ka w (.cells (ordC 0 0 wk0 wk0 (.slice none 0 0)).toArray 71)
 have hop := open_no ao n cap 68 xs (w.alloc (.cells (ordC 0 0 wk0 wk0 (.slice none 0 0)).toArray 71)) hn hm (hs.kept hK (by simp)) h0 hmk
 clear hn hs h0 hmk
 go_enter Tryz.func41, Tryz.ntmps41
 go_wp2_with (go_at_call 48; refine hop.mono ?_; rintro r w2 ⟨rfl, hk2⟩; have H2 := hide hk2; clear hop hk2)
 exact ⟨rfl, rfl, hK.tr H2.out⟩
theorem readOrd_width (ao : Option Addr) (n cap : Nat) (xs : List UInt8) (w : World) (hn : xs.length = n) (hc : n <= cap) (hm : n <= 131072) (hs : Sl w ao xs) (h0 : ao = none -> xs = [] ∧ cap = 0) (hmk : mk xs = 68) (hW : Dlt.isW (stNumber xs (s1 xs)).1 = false) :
  Calls Tryz.prog 41 #[.slice ao n cap] w fun e w' => e = gaveUp8 ∧ Kept [] w w' := by
 have hz := Tryz.zeroOrd
 have hzs := Tryz.zeroStrict
 have hK := ka w (.cells (ordC 0 0 wk0 wk0 (.slice none 0 0)).toArray 71)
 have hR0 := heap_new w (.cells (ordC 0 0 wk0 wk0 (.slice none 0 0)).toArray 71)
 have hop := open_yes ao n cap 68 xs (w.alloc (.cells (ordC 0 0 wk0 wk0 (.slice none 0 0)).toArray 71)) hn hm (hs.kept hK (by simp)) h0 hmk
 have HD := hide (ai hn (ai hc (ai hm hs)))
 have HK := hide hK
 clear hn hc hs h0 hmk hK
 obtain ⟨R, hR⟩ := nm (w.heap.size)
 rw [hR] at hR0
 go_enter Tryz.func41, Tryz.ntmps41
 go_upto_region 1 with (fail)
 have HRW := hide hR
 clear hR
 generalize w.alloc (.cells (ordC 0 0 wk0 wk0 (.slice none 0 0)).toArray 71) = w1 at *
 go_upto_region 2 with (go_at_call 48; refine hop.mono ?_; rintro r w2 ⟨b, ao', cap', rfl, hb, hbl, hrd, hk2⟩; have H2 := hide (ai hb (ai hbl (ai hrd hk2))); clear hop hb hbl hrd hk2)
 have hX := Sx.new w2 b
 have hk3 := ka w2 (.cells (stC b).toArray 88)
 obtain ⟨G, hG⟩ := nm (w2.heap.size)
 have hGb : b < G := by rw [<-hG]; exact H2.out.2.2.1.lt
 rw [hG] at hX ⊢
 have HGN := hide (show G = w2.heap.size from hG.symm)
 clear hG
 generalize w2.alloc (.cells (stC b).toArray 88) = w3 at hX hk3 ⊢
 have hA := OrdAt.new w3 0 0 wk0 wk0 (.slice none 0 0)
 have hk4 := ka w3 (.cells (ordC 0 0 wk0 wk0 (.slice none 0 0)).toArray 71)
 obtain ⟨Sg, hSg⟩ := nm (w3.heap.size)
 have hSG : G < Sg := by rw [<-hSg]; exact hX.lt
 rw [hSg] at hA
 go_upto_region 3 with (fail)
 have HSN := hide (show Sg = w3.heap.size from hSg.symm)
 clear hSg
 have hA : OrdAt (w3.alloc (.cells (ordC 0 0 wk0 wk0 (.slice none 0 0)).toArray 71)) Sg 0 0 wk0 wk0 (.slice none 0 0) := hA
 generalize w3.alloc (.cells (ordC 0 0 wk0 wk0 (.slice none 0 0)).toArray 71) = w4 at *
 have HX := hide (hX.kept hk4 (by simp))
 have HR4 := hide ((H2.out.2.2.1.later hk3).later hk4)
 have HK4 := hide (((HK.out.tr H2.out.2.2.2).tr hk3).tr hk4)
 have HOUT : Hid (w4.heap[R]? = some (.cells (ordC 0 0 wk0 wk0 (.slice none 0 0)).toArray 71 (0, 0))) := by
  have hl := (gs hR0).1
  show _ = _
  rw [hk4.block R (Nat.lt_of_lt_of_le hl (Nat.le_trans H2.out.2.2.2.size hk3.size)) (by simp), hk3.block R (Nat.lt_of_lt_of_le hl H2.out.2.2.2.size) (by simp), H2.out.2.2.2.block R hl (by simp)]
  exact hR0
 have HBL : Hid (w.heap.size <= b ∧ R < b ∧ b < G ∧ G < Sg ∧ Sg < w4.heap.size ∧ ∀ a, ao' = some a -> R < a.block ∧ (xs ≠ [] -> a.block < G)) := by
  have h1 := (gs hR0).1
  have h2 := H2.out.1
  have h3 := HK.out.size
  have h4 := HGN.out
  refine ⟨by omega, by omega, hGb, hSG, hA.lt, fun a ha => ⟨by have := H2.out.2.1 a ha; omega, fun hx => ?_⟩⟩
  have := H2.out.2.2.1.blk hx a ha
  omega
 have HA := hide hA
 have cb := HX.out.cell
 have HNB : Hid (G ∉ [b]) := by have := HBL.out; show G ∉ [b]; simp; omega
 have HNS : Hid (G ∉ [b, Sg]) := by have := HBL.out; show G ∉ [b, Sg]; simp; omega
 have HSB : Hid (Sg ∉ [b]) := by have := HBL.out; show Sg ∉ [b]; simp; omega
 clear hX hk3 hk4 hA H2 HK hR0 hSG hGb hz hzs
 have k0 : Kept [] w4 (World.drew w4) := (Kept.refl [] w4).drew
 refine wp_region_held_drew (S := fun w' => Kept [b, Sg] w4 w') (by kernel_rfl) ((Kept.refl [b, Sg] w4).drew) (fun h0 => ?_)
 generalize World.drew w4 = v0 at h0 k0 ⊢
 refine t4 0 (stV b) rfl (yieldsIf_load_mid (by rfl) _ _ rfl G 0 rfl (stC b) _ (fun W h => (HX.out.kept h HNS.out).range) Tryz.underlying88 rfl Tryz.infoStrict) h0 ?_
 try simp only [zz]
 refine t4 2 (stV b) rfl (yieldsIf_load_mid (by rfl) _ _ rfl G 0 rfl (stC b) _ (fun W h => (HX.out.kept h HNS.out).range) Tryz.underlying88 rfl Tryz.infoStrict) h0 ?_
 try simp only [zz]
 have hr0 := HR4.out.later k0
 have kk0 : Kept [b] w4 v0 := k0.mono (by simp)
 clear k0
 refine rd 1 fun K hK => ?_
 go_simp
 refine (width_no hr0 hW).mono ?_
 rintro e vx ⟨rfl, hq⟩
 exact ⟨rfl, rfl, HK4.out.trans (h0.tr hq) (fun i hi hl => by simp only [List.mem_cons, List.not_mem_nil, or_false] at hi; have := HBL.out; omega)⟩
theorem readOrd_size (ao : Option Addr) (n cap : Nat) (xs : List UInt8) (w : World) (hn : xs.length = n) (hc : n <= cap) (hm : n <= 131072) (hs : Sl w ao xs) (h0 : ao = none -> xs = [] ∧ cap = 0) (hmk : mk xs = 68) (hW : Dlt.isW (stNumber xs (s1 xs)).1 = true) (hZ : Dlt.isZ (stNumber xs (stNumber xs (s1 xs)).2).1 = false) :
  Calls Tryz.prog 41 #[.slice ao n cap] w fun e w' => e = gaveUp8 ∧ Kept [] w w' := by
 have hz := Tryz.zeroOrd
 have hzs := Tryz.zeroStrict
 have hK := ka w (.cells (ordC 0 0 wk0 wk0 (.slice none 0 0)).toArray 71)
 have hR0 := heap_new w (.cells (ordC 0 0 wk0 wk0 (.slice none 0 0)).toArray 71)
 have hop := open_yes ao n cap 68 xs (w.alloc (.cells (ordC 0 0 wk0 wk0 (.slice none 0 0)).toArray 71)) hn hm (hs.kept hK (by simp)) h0 hmk
 have HD := hide (ai hn (ai hc (ai hm hs)))
 have HK := hide hK
 clear hn hc hs h0 hmk hK
 obtain ⟨R, hR⟩ := nm (w.heap.size)
 rw [hR] at hR0
 go_enter Tryz.func41, Tryz.ntmps41
 go_upto_region 1 with (fail)
 have HRW := hide hR
 clear hR
 generalize w.alloc (.cells (ordC 0 0 wk0 wk0 (.slice none 0 0)).toArray 71) = w1 at *
 go_upto_region 2 with (go_at_call 48; refine hop.mono ?_; rintro r w2 ⟨b, ao', cap', rfl, hb, hbl, hrd, hk2⟩; have H2 := hide (ai hb (ai hbl (ai hrd hk2))); clear hop hb hbl hrd hk2)
 have hX := Sx.new w2 b
 have hk3 := ka w2 (.cells (stC b).toArray 88)
 obtain ⟨G, hG⟩ := nm (w2.heap.size)
 have hGb : b < G := by rw [<-hG]; exact H2.out.2.2.1.lt
 rw [hG] at hX ⊢
 have HGN := hide (show G = w2.heap.size from hG.symm)
 clear hG
 generalize w2.alloc (.cells (stC b).toArray 88) = w3 at hX hk3 ⊢
 have hA := OrdAt.new w3 0 0 wk0 wk0 (.slice none 0 0)
 have hk4 := ka w3 (.cells (ordC 0 0 wk0 wk0 (.slice none 0 0)).toArray 71)
 obtain ⟨Sg, hSg⟩ := nm (w3.heap.size)
 have hSG : G < Sg := by rw [<-hSg]; exact hX.lt
 rw [hSg] at hA
 go_upto_region 3 with (fail)
 have HSN := hide (show Sg = w3.heap.size from hSg.symm)
 clear hSg
 have hA : OrdAt (w3.alloc (.cells (ordC 0 0 wk0 wk0 (.slice none 0 0)).toArray 71)) Sg 0 0 wk0 wk0 (.slice none 0 0) := hA
 generalize w3.alloc (.cells (ordC 0 0 wk0 wk0 (.slice none 0 0)).toArray 71) = w4 at *
 have HX := hide (hX.kept hk4 (by simp))
 have HR4 := hide ((H2.out.2.2.1.later hk3).later hk4)
 have HK4 := hide (((HK.out.tr H2.out.2.2.2).tr hk3).tr hk4)
 have HOUT : Hid (w4.heap[R]? = some (.cells (ordC 0 0 wk0 wk0 (.slice none 0 0)).toArray 71 (0, 0))) := by
  have hl := (gs hR0).1
  show _ = _
  rw [hk4.block R (Nat.lt_of_lt_of_le hl (Nat.le_trans H2.out.2.2.2.size hk3.size)) (by simp), hk3.block R (Nat.lt_of_lt_of_le hl H2.out.2.2.2.size) (by simp), H2.out.2.2.2.block R hl (by simp)]
  exact hR0
 have HBL : Hid (w.heap.size <= b ∧ R < b ∧ b < G ∧ G < Sg ∧ Sg < w4.heap.size ∧ ∀ a, ao' = some a -> R < a.block ∧ (xs ≠ [] -> a.block < G)) := by
  have h1 := (gs hR0).1
  have h2 := H2.out.1
  have h3 := HK.out.size
  have h4 := HGN.out
  refine ⟨by omega, by omega, hGb, hSG, hA.lt, fun a ha => ⟨by have := H2.out.2.1 a ha; omega, fun hx => ?_⟩⟩
  have := H2.out.2.2.1.blk hx a ha
  omega
 have HA := hide hA
 have cb := HX.out.cell
 have HNB : Hid (G ∉ [b]) := by have := HBL.out; show G ∉ [b]; simp; omega
 have HNS : Hid (G ∉ [b, Sg]) := by have := HBL.out; show G ∉ [b, Sg]; simp; omega
 have HSB : Hid (Sg ∉ [b]) := by have := HBL.out; show Sg ∉ [b]; simp; omega
 clear hX hk3 hk4 hA H2 HK hR0 hSG hGb hz hzs
 have k0 : Kept [] w4 (World.drew w4) := (Kept.refl [] w4).drew
 refine wp_region_held_drew (S := fun w' => Kept [b, Sg] w4 w') (by kernel_rfl) ((Kept.refl [b, Sg] w4).drew) (fun h0 => ?_)
 generalize World.drew w4 = v0 at h0 k0 ⊢
 refine t4 0 (stV b) rfl (yieldsIf_load_mid (by rfl) _ _ rfl G 0 rfl (stC b) _ (fun W h => (HX.out.kept h HNS.out).range) Tryz.underlying88 rfl Tryz.infoStrict) h0 ?_
 try simp only [zz]
 refine t4 2 (stV b) rfl (yieldsIf_load_mid (by rfl) _ _ rfl G 0 rfl (stC b) _ (fun W h => (HX.out.kept h HNS.out).range) Tryz.underlying88 rfl Tryz.infoStrict) h0 ?_
 try simp only [zz]
 have hr0 := HR4.out.later k0
 have kk0 : Kept [b] w4 v0 := k0.mono (by simp)
 clear k0
 refine rd 1 fun K hK => ?_
 go_simp
 refine (width_yes hr0 hW).mono ?_
 rintro e v1 ⟨rfl, hr1, hq⟩
 have kk1 := kk0.tr hq
 refine hK.out _ _ (h0.tr hq) (fun h1 => ?_)
 clear hK K
 try simp only [zz]
 clear hq hr0 kk0 h0
 refine t1 4 (.pointer (some ⟨Sg, 0, none⟩)) h1 ?_
 try simp only [zz]
 refine rd 3 fun K hK => ?_
 go_simp
 refine (size_no hr1 hZ).mono ?_
 rintro e vx ⟨rfl, hq⟩
 exact ⟨rfl, rfl, HK4.out.trans (h1.tr hq) (fun i hi hl => by simp only [List.mem_cons, List.not_mem_nil, or_false] at hi; have := HBL.out; omega)⟩
theorem readOrd_base (ao : Option Addr) (n cap : Nat) (xs : List UInt8) (w : World) (hn : xs.length = n) (hc : n <= cap) (hm : n <= 131072) (hs : Sl w ao xs) (h0 : ao = none -> xs = [] ∧ cap = 0) (hmk : mk xs = 68) (hW : Dlt.isW (stNumber xs (s1 xs)).1 = true) (hZ : Dlt.isZ (stNumber xs (stNumber xs (s1 xs)).2).1 = true) (hB : Dlt.within (stNumber xs (stNumber xs (stNumber xs (s1 xs)).2).2).1 0 131072 = false) :
  Calls Tryz.prog 41 #[.slice ao n cap] w fun e w' => e = gaveUp8 ∧ Kept [] w w' := by
 have hz := Tryz.zeroOrd
 have hzs := Tryz.zeroStrict
 have hK := ka w (.cells (ordC 0 0 wk0 wk0 (.slice none 0 0)).toArray 71)
 have hR0 := heap_new w (.cells (ordC 0 0 wk0 wk0 (.slice none 0 0)).toArray 71)
 have hop := open_yes ao n cap 68 xs (w.alloc (.cells (ordC 0 0 wk0 wk0 (.slice none 0 0)).toArray 71)) hn hm (hs.kept hK (by simp)) h0 hmk
 have HD := hide (ai hn (ai hc (ai hm hs)))
 have HK := hide hK
 clear hn hc hs h0 hmk hK
 obtain ⟨R, hR⟩ := nm (w.heap.size)
 rw [hR] at hR0
 go_enter Tryz.func41, Tryz.ntmps41
 go_upto_region 1 with (fail)
 have HRW := hide hR
 clear hR
 generalize w.alloc (.cells (ordC 0 0 wk0 wk0 (.slice none 0 0)).toArray 71) = w1 at *
 go_upto_region 2 with (go_at_call 48; refine hop.mono ?_; rintro r w2 ⟨b, ao', cap', rfl, hb, hbl, hrd, hk2⟩; have H2 := hide (ai hb (ai hbl (ai hrd hk2))); clear hop hb hbl hrd hk2)
 have hX := Sx.new w2 b
 have hk3 := ka w2 (.cells (stC b).toArray 88)
 obtain ⟨G, hG⟩ := nm (w2.heap.size)
 have hGb : b < G := by rw [<-hG]; exact H2.out.2.2.1.lt
 rw [hG] at hX ⊢
 have HGN := hide (show G = w2.heap.size from hG.symm)
 clear hG
 generalize w2.alloc (.cells (stC b).toArray 88) = w3 at hX hk3 ⊢
 have hA := OrdAt.new w3 0 0 wk0 wk0 (.slice none 0 0)
 have hk4 := ka w3 (.cells (ordC 0 0 wk0 wk0 (.slice none 0 0)).toArray 71)
 obtain ⟨Sg, hSg⟩ := nm (w3.heap.size)
 have hSG : G < Sg := by rw [<-hSg]; exact hX.lt
 rw [hSg] at hA
 go_upto_region 3 with (fail)
 have HSN := hide (show Sg = w3.heap.size from hSg.symm)
 clear hSg
 have hA : OrdAt (w3.alloc (.cells (ordC 0 0 wk0 wk0 (.slice none 0 0)).toArray 71)) Sg 0 0 wk0 wk0 (.slice none 0 0) := hA
 generalize w3.alloc (.cells (ordC 0 0 wk0 wk0 (.slice none 0 0)).toArray 71) = w4 at *
 have HX := hide (hX.kept hk4 (by simp))
 have HR4 := hide ((H2.out.2.2.1.later hk3).later hk4)
 have HK4 := hide (((HK.out.tr H2.out.2.2.2).tr hk3).tr hk4)
 have HOUT : Hid (w4.heap[R]? = some (.cells (ordC 0 0 wk0 wk0 (.slice none 0 0)).toArray 71 (0, 0))) := by
  have hl := (gs hR0).1
  show _ = _
  rw [hk4.block R (Nat.lt_of_lt_of_le hl (Nat.le_trans H2.out.2.2.2.size hk3.size)) (by simp), hk3.block R (Nat.lt_of_lt_of_le hl H2.out.2.2.2.size) (by simp), H2.out.2.2.2.block R hl (by simp)]
  exact hR0
 have HBL : Hid (w.heap.size <= b ∧ R < b ∧ b < G ∧ G < Sg ∧ Sg < w4.heap.size ∧ ∀ a, ao' = some a -> R < a.block ∧ (xs ≠ [] -> a.block < G)) := by
  have h1 := (gs hR0).1
  have h2 := H2.out.1
  have h3 := HK.out.size
  have h4 := HGN.out
  refine ⟨by omega, by omega, hGb, hSG, hA.lt, fun a ha => ⟨by have := H2.out.2.1 a ha; omega, fun hx => ?_⟩⟩
  have := H2.out.2.2.1.blk hx a ha
  omega
 have HA := hide hA
 have cb := HX.out.cell
 have HNB : Hid (G ∉ [b]) := by have := HBL.out; show G ∉ [b]; simp; omega
 have HNS : Hid (G ∉ [b, Sg]) := by have := HBL.out; show G ∉ [b, Sg]; simp; omega
 have HSB : Hid (Sg ∉ [b]) := by have := HBL.out; show Sg ∉ [b]; simp; omega
 clear hX hk3 hk4 hA H2 HK hR0 hSG hGb hz hzs
 have k0 : Kept [] w4 (World.drew w4) := (Kept.refl [] w4).drew
 refine wp_region_held_drew (S := fun w' => Kept [b, Sg] w4 w') (by kernel_rfl) ((Kept.refl [b, Sg] w4).drew) (fun h0 => ?_)
 generalize World.drew w4 = v0 at h0 k0 ⊢
 refine t4 0 (stV b) rfl (yieldsIf_load_mid (by rfl) _ _ rfl G 0 rfl (stC b) _ (fun W h => (HX.out.kept h HNS.out).range) Tryz.underlying88 rfl Tryz.infoStrict) h0 ?_
 try simp only [zz]
 refine t4 2 (stV b) rfl (yieldsIf_load_mid (by rfl) _ _ rfl G 0 rfl (stC b) _ (fun W h => (HX.out.kept h HNS.out).range) Tryz.underlying88 rfl Tryz.infoStrict) h0 ?_
 try simp only [zz]
 have hr0 := HR4.out.later k0
 have kk0 : Kept [b] w4 v0 := k0.mono (by simp)
 clear k0
 refine rd 1 fun K hK => ?_
 go_simp
 refine (width_yes hr0 hW).mono ?_
 rintro e v1 ⟨rfl, hr1, hq⟩
 have kk1 := kk0.tr hq
 refine hK.out _ _ (h0.tr hq) (fun h1 => ?_)
 clear hK K
 try simp only [zz]
 clear hq hr0 kk0 h0
 refine t1 4 (.pointer (some ⟨Sg, 0, none⟩)) h1 ?_
 try simp only [zz]
 refine rd 3 fun K hK => ?_
 go_simp
 refine (size_yes hr1 hZ).mono ?_
 rintro e v2 ⟨rfl, hr2, hq⟩
 have kk2 := kk1.tr hq
 refine hK.out _ _ (h1.tr hq) (fun h2 => ?_)
 clear hK K
 try simp only [zz]
 clear hq hr1 kk1 h1
 have hA2 := HA.out.kept kk2 HSB.out
 have f0 := hA2.fr 0
 have c0 := hA2.c (j := 0) (u := .int .i64 0) rfl
 have hA3 := hA2.setW (nW xs)
 have f1 := hA3.fr 1
 have c1 := hA3.c (j := 1) (u := .int .i64 0) rfl
 have hA4 := hA3.setZ (nZ xs)
 simp only [show (stNumber xs (s1 xs)).1 = nW xs from rfl, show (stNumber xs (stNumber xs (s1 xs)).2).1 = nZ xs from rfl]
 refine rd 5 fun K hK => ?_
 go_simp
 refine hK.out _ _ (h2.setCell (by simp) _) (fun h3 => ?_)
 clear hK K h2
 try simp only [zz]
 refine t1 6 (.pointer (some ⟨Sg, 1, none⟩)) h3 ?_
 try simp only [zz]
 refine rd 7 fun K hK => ?_
 go_simp
 refine hK.out _ _ (h3.setCell (by simp) _) (fun h4 => ?_)
 clear hK K h3
 try simp only [zz]
 refine dn ?_
 have k6 : Kept [Sg] v2 ((v2.setCell ⟨Sg, 0, none⟩ (.int .i64 (nW xs))).setCell ⟨Sg, 1, none⟩ (.int .i64 (nZ xs))) := ((Kept.refl [Sg] v2).setCell (by simp) _).setCell (by simp) _
 have HR5 : Hid (RdS ((v2.setCell ⟨Sg, 0, none⟩ (.int .i64 (nW xs))).setCell ⟨Sg, 1, none⟩ (.int .i64 (nZ xs))) b ao' cap' xs (stNumber xs (stNumber xs (s1 xs)).2).2) := hr2.kept k6 (by have := HBL.out; simp; omega) (fun hx a ha => by have h1 := HBL.out.2.2.2.2.2 a ha; have h2 := HBL.out; have := h1.2 hx; simp; omega)
 have HK5 : Hid (Kept [b, Sg] w4 ((v2.setCell ⟨Sg, 0, none⟩ (.int .i64 (nW xs))).setCell ⟨Sg, 1, none⟩ (.int .i64 (nZ xs)))) := (kk2.mono (by simp)).tr k6
 have HA5 := hide hA4
 clear k6 hr2 kk2 hA2 hA3 hA4 f0 f1 c0 c1 HA HR4
 generalize (v2.setCell ⟨Sg, 0, none⟩ (.int .i64 (nW xs))).setCell ⟨Sg, 1, none⟩ (.int .i64 (nZ xs)) = w5 at *
 have HX5 := hide (HX.out.kept HK5.out HNS.out)
 obtain ⟨W, hWn⟩ := Int.eq_ofNat_of_zero_le (show 0 <= nW xs by have := (Dlt.within_iff.1 (show Dlt.within (nW xs) 1 32 = true from hW)).1; omega)
 have hW32 : W <= 32 := by have := (Dlt.within_iff.1 (show Dlt.within (nW xs) 1 32 = true from hW)).2; omega
 rw [hWn] at HA5
 have cW := HA5.out.c (j := 0) (u := .int .i64 W) rfl
 have HWN := hide hWn
 clear hWn hW hZ
 go_wp2
 have k0 : Kept [] w5 (World.drew w5) := (Kept.refl [] w5).drew
 refine wp_region_held_drew (S := fun w' => Kept [b] w5 w') (by kernel_rfl) ((Kept.refl [b] w5).drew) (fun h0 => ?_)
 generalize World.drew w5 = v0 at h0 k0 ⊢
 refine t4 0 (stV b) rfl (yieldsIf_load_mid (by rfl) _ _ rfl G 0 rfl (stC b) _ (fun W h => (HX5.out.kept h HNB.out).range) Tryz.underlying88 rfl Tryz.infoStrict) h0 ?_
 try simp only [zz]
 refine t1 1 (.pointer (some ⟨Sg, 0, none⟩)) h0 ?_
 try simp only [zz]
 refine t2 2 (.int .i64 W) rfl h0 ?_ (fun w hSw => by have c0 := Kept.cellOf hSw cW HSB.out; go_simp)
 try simp only [zz]
 refine t4 4 (stV b) rfl (yieldsIf_load_mid (by rfl) _ _ rfl G 0 rfl (stC b) _ (fun W h => (HX5.out.kept h HNB.out).range) Tryz.underlying88 rfl Tryz.infoStrict) h0 ?_
 try simp only [zz]
 refine t1 5 (.pointer (some ⟨Sg, 0, none⟩)) h0 ?_
 try simp only [zz]
 refine t2 6 (.int .i64 W) rfl h0 ?_ (fun w hSw => by have c0 := Kept.cellOf hSw cW HSB.out; go_simp)
 try simp only [zz]
 have hr0 := HR5.out.later k0
 clear k0
 refine rd 3 fun K hK => ?_
 go_simp
 refine (seal_no hr0 W hB).mono ?_
 rintro e vx ⟨rfl, hq⟩
 exact ⟨rfl, rfl, HK4.out.trans (HK5.out.trans (h0.tr hq) (by simp)) (fun i hi hl => by simp only [List.mem_cons, List.not_mem_nil, or_false] at hi; have := HBL.out; omega)⟩
theorem readOrd_targ (ao : Option Addr) (n cap : Nat) (xs : List UInt8) (w : World) (hn : xs.length = n) (hc : n <= cap) (hm : n <= 131072) (hs : Sl w ao xs) (h0 : ao = none -> xs = [] ∧ cap = 0) (hmk : mk xs = 68) (hW : Dlt.isW (stNumber xs (s1 xs)).1 = true) (hZ : Dlt.isZ (stNumber xs (stNumber xs (s1 xs)).2).1 = true) (hB : Dlt.within (stNumber xs (stNumber xs (stNumber xs (s1 xs)).2).2).1 0 131072 = true) (hT : Dlt.within (stNumber xs (stRaw xs (stNumber xs (stNumber xs (stNumber xs (s1 xs)).2).2).2 (nW xs)).2).1 0 131072 = false) :
  Calls Tryz.prog 41 #[.slice ao n cap] w fun e w' => e = gaveUp8 ∧ Kept [] w w' := by
 have hz := Tryz.zeroOrd
 have hzs := Tryz.zeroStrict
 have hK := ka w (.cells (ordC 0 0 wk0 wk0 (.slice none 0 0)).toArray 71)
 have hR0 := heap_new w (.cells (ordC 0 0 wk0 wk0 (.slice none 0 0)).toArray 71)
 have hop := open_yes ao n cap 68 xs (w.alloc (.cells (ordC 0 0 wk0 wk0 (.slice none 0 0)).toArray 71)) hn hm (hs.kept hK (by simp)) h0 hmk
 have HD := hide (ai hn (ai hc (ai hm hs)))
 have HK := hide hK
 clear hn hc hs h0 hmk hK
 obtain ⟨R, hR⟩ := nm (w.heap.size)
 rw [hR] at hR0
 go_enter Tryz.func41, Tryz.ntmps41
 go_upto_region 1 with (fail)
 have HRW := hide hR
 clear hR
 generalize w.alloc (.cells (ordC 0 0 wk0 wk0 (.slice none 0 0)).toArray 71) = w1 at *
 go_upto_region 2 with (go_at_call 48; refine hop.mono ?_; rintro r w2 ⟨b, ao', cap', rfl, hb, hbl, hrd, hk2⟩; have H2 := hide (ai hb (ai hbl (ai hrd hk2))); clear hop hb hbl hrd hk2)
 have hX := Sx.new w2 b
 have hk3 := ka w2 (.cells (stC b).toArray 88)
 obtain ⟨G, hG⟩ := nm (w2.heap.size)
 have hGb : b < G := by rw [<-hG]; exact H2.out.2.2.1.lt
 rw [hG] at hX ⊢
 have HGN := hide (show G = w2.heap.size from hG.symm)
 clear hG
 generalize w2.alloc (.cells (stC b).toArray 88) = w3 at hX hk3 ⊢
 have hA := OrdAt.new w3 0 0 wk0 wk0 (.slice none 0 0)
 have hk4 := ka w3 (.cells (ordC 0 0 wk0 wk0 (.slice none 0 0)).toArray 71)
 obtain ⟨Sg, hSg⟩ := nm (w3.heap.size)
 have hSG : G < Sg := by rw [<-hSg]; exact hX.lt
 rw [hSg] at hA
 go_upto_region 3 with (fail)
 have HSN := hide (show Sg = w3.heap.size from hSg.symm)
 clear hSg
 have hA : OrdAt (w3.alloc (.cells (ordC 0 0 wk0 wk0 (.slice none 0 0)).toArray 71)) Sg 0 0 wk0 wk0 (.slice none 0 0) := hA
 generalize w3.alloc (.cells (ordC 0 0 wk0 wk0 (.slice none 0 0)).toArray 71) = w4 at *
 have HX := hide (hX.kept hk4 (by simp))
 have HR4 := hide ((H2.out.2.2.1.later hk3).later hk4)
 have HK4 := hide (((HK.out.tr H2.out.2.2.2).tr hk3).tr hk4)
 have HOUT : Hid (w4.heap[R]? = some (.cells (ordC 0 0 wk0 wk0 (.slice none 0 0)).toArray 71 (0, 0))) := by
  have hl := (gs hR0).1
  show _ = _
  rw [hk4.block R (Nat.lt_of_lt_of_le hl (Nat.le_trans H2.out.2.2.2.size hk3.size)) (by simp), hk3.block R (Nat.lt_of_lt_of_le hl H2.out.2.2.2.size) (by simp), H2.out.2.2.2.block R hl (by simp)]
  exact hR0
 have HBL : Hid (w.heap.size <= b ∧ R < b ∧ b < G ∧ G < Sg ∧ Sg < w4.heap.size ∧ ∀ a, ao' = some a -> R < a.block ∧ (xs ≠ [] -> a.block < G)) := by
  have h1 := (gs hR0).1
  have h2 := H2.out.1
  have h3 := HK.out.size
  have h4 := HGN.out
  refine ⟨by omega, by omega, hGb, hSG, hA.lt, fun a ha => ⟨by have := H2.out.2.1 a ha; omega, fun hx => ?_⟩⟩
  have := H2.out.2.2.1.blk hx a ha
  omega
 have HA := hide hA
 have cb := HX.out.cell
 have HNB : Hid (G ∉ [b]) := by have := HBL.out; show G ∉ [b]; simp; omega
 have HNS : Hid (G ∉ [b, Sg]) := by have := HBL.out; show G ∉ [b, Sg]; simp; omega
 have HSB : Hid (Sg ∉ [b]) := by have := HBL.out; show Sg ∉ [b]; simp; omega
 clear hX hk3 hk4 hA H2 HK hR0 hSG hGb hz hzs
 have k0 : Kept [] w4 (World.drew w4) := (Kept.refl [] w4).drew
 refine wp_region_held_drew (S := fun w' => Kept [b, Sg] w4 w') (by kernel_rfl) ((Kept.refl [b, Sg] w4).drew) (fun h0 => ?_)
 generalize World.drew w4 = v0 at h0 k0 ⊢
 refine t4 0 (stV b) rfl (yieldsIf_load_mid (by rfl) _ _ rfl G 0 rfl (stC b) _ (fun W h => (HX.out.kept h HNS.out).range) Tryz.underlying88 rfl Tryz.infoStrict) h0 ?_
 try simp only [zz]
 refine t4 2 (stV b) rfl (yieldsIf_load_mid (by rfl) _ _ rfl G 0 rfl (stC b) _ (fun W h => (HX.out.kept h HNS.out).range) Tryz.underlying88 rfl Tryz.infoStrict) h0 ?_
 try simp only [zz]
 have hr0 := HR4.out.later k0
 have kk0 : Kept [b] w4 v0 := k0.mono (by simp)
 clear k0
 refine rd 1 fun K hK => ?_
 go_simp
 refine (width_yes hr0 hW).mono ?_
 rintro e v1 ⟨rfl, hr1, hq⟩
 have kk1 := kk0.tr hq
 refine hK.out _ _ (h0.tr hq) (fun h1 => ?_)
 clear hK K
 try simp only [zz]
 clear hq hr0 kk0 h0
 refine t1 4 (.pointer (some ⟨Sg, 0, none⟩)) h1 ?_
 try simp only [zz]
 refine rd 3 fun K hK => ?_
 go_simp
 refine (size_yes hr1 hZ).mono ?_
 rintro e v2 ⟨rfl, hr2, hq⟩
 have kk2 := kk1.tr hq
 refine hK.out _ _ (h1.tr hq) (fun h2 => ?_)
 clear hK K
 try simp only [zz]
 clear hq hr1 kk1 h1
 have hA2 := HA.out.kept kk2 HSB.out
 have f0 := hA2.fr 0
 have c0 := hA2.c (j := 0) (u := .int .i64 0) rfl
 have hA3 := hA2.setW (nW xs)
 have f1 := hA3.fr 1
 have c1 := hA3.c (j := 1) (u := .int .i64 0) rfl
 have hA4 := hA3.setZ (nZ xs)
 simp only [show (stNumber xs (s1 xs)).1 = nW xs from rfl, show (stNumber xs (stNumber xs (s1 xs)).2).1 = nZ xs from rfl]
 refine rd 5 fun K hK => ?_
 go_simp
 refine hK.out _ _ (h2.setCell (by simp) _) (fun h3 => ?_)
 clear hK K h2
 try simp only [zz]
 refine t1 6 (.pointer (some ⟨Sg, 1, none⟩)) h3 ?_
 try simp only [zz]
 refine rd 7 fun K hK => ?_
 go_simp
 refine hK.out _ _ (h3.setCell (by simp) _) (fun h4 => ?_)
 clear hK K h3
 try simp only [zz]
 refine dn ?_
 have k6 : Kept [Sg] v2 ((v2.setCell ⟨Sg, 0, none⟩ (.int .i64 (nW xs))).setCell ⟨Sg, 1, none⟩ (.int .i64 (nZ xs))) := ((Kept.refl [Sg] v2).setCell (by simp) _).setCell (by simp) _
 have HR5 : Hid (RdS ((v2.setCell ⟨Sg, 0, none⟩ (.int .i64 (nW xs))).setCell ⟨Sg, 1, none⟩ (.int .i64 (nZ xs))) b ao' cap' xs (stNumber xs (stNumber xs (s1 xs)).2).2) := hr2.kept k6 (by have := HBL.out; simp; omega) (fun hx a ha => by have h1 := HBL.out.2.2.2.2.2 a ha; have h2 := HBL.out; have := h1.2 hx; simp; omega)
 have HK5 : Hid (Kept [b, Sg] w4 ((v2.setCell ⟨Sg, 0, none⟩ (.int .i64 (nW xs))).setCell ⟨Sg, 1, none⟩ (.int .i64 (nZ xs)))) := (kk2.mono (by simp)).tr k6
 have HA5 := hide hA4
 clear k6 hr2 kk2 hA2 hA3 hA4 f0 f1 c0 c1 HA HR4
 generalize (v2.setCell ⟨Sg, 0, none⟩ (.int .i64 (nW xs))).setCell ⟨Sg, 1, none⟩ (.int .i64 (nZ xs)) = w5 at *
 have HX5 := hide (HX.out.kept HK5.out HNS.out)
 obtain ⟨W, hWn⟩ := Int.eq_ofNat_of_zero_le (show 0 <= nW xs by have := (Dlt.within_iff.1 (show Dlt.within (nW xs) 1 32 = true from hW)).1; omega)
 have hW32 : W <= 32 := by have := (Dlt.within_iff.1 (show Dlt.within (nW xs) 1 32 = true from hW)).2; omega
 rw [hWn] at HA5
 have cW := HA5.out.c (j := 0) (u := .int .i64 W) rfl
 have HWN := hide hWn
 clear hWn hW hZ
 go_wp2
 rw [HWN.out] at hT
 have k0 : Kept [] w5 (World.drew w5) := (Kept.refl [] w5).drew
 refine wp_region_held_drew (S := fun w' => Kept [b] w5 w') (by kernel_rfl) ((Kept.refl [b] w5).drew) (fun h0 => ?_)
 generalize World.drew w5 = v0 at h0 k0 ⊢
 refine t4 0 (stV b) rfl (yieldsIf_load_mid (by rfl) _ _ rfl G 0 rfl (stC b) _ (fun W h => (HX5.out.kept h HNB.out).range) Tryz.underlying88 rfl Tryz.infoStrict) h0 ?_
 try simp only [zz]
 refine t1 1 (.pointer (some ⟨Sg, 0, none⟩)) h0 ?_
 try simp only [zz]
 refine t2 2 (.int .i64 W) rfl h0 ?_ (fun w hSw => by have c0 := Kept.cellOf hSw cW HSB.out; go_simp)
 try simp only [zz]
 refine t4 4 (stV b) rfl (yieldsIf_load_mid (by rfl) _ _ rfl G 0 rfl (stC b) _ (fun W h => (HX5.out.kept h HNB.out).range) Tryz.underlying88 rfl Tryz.infoStrict) h0 ?_
 try simp only [zz]
 refine t1 5 (.pointer (some ⟨Sg, 0, none⟩)) h0 ?_
 try simp only [zz]
 refine t2 6 (.int .i64 W) rfl h0 ?_ (fun w hSw => by have c0 := Kept.cellOf hSw cW HSB.out; go_simp)
 try simp only [zz]
 have hr0 := HR5.out.later k0
 clear k0
 obtain ⟨bk, hbk1, hbk2⟩ := sealK xs (stNumber xs (stNumber xs (s1 xs)).2).2 W hB
 refine rd 3 fun K hK => ?_
 go_simp
 refine (seal_yes hr0 W hW32 hB bk hbk1 hbk2).mono ?_
 rintro e v1 ⟨rfl, hr1, hq⟩
 refine hK.out _ _ (h0.tr hq) (fun h1 => ?_)
 clear hK K
 try simp only [zz]
 clear hq hr0 h0
 refine t1 8 (.pointer (some ⟨Sg, 2, none⟩)) h1 ?_
 try simp only [zz]
 refine rd 7 fun K hK => ?_
 go_simp
 refine (seal_no hr1 W hT).mono ?_
 rintro e vx ⟨rfl, hq⟩
 exact ⟨rfl, rfl, HK4.out.trans (HK5.out.trans (h1.tr hq) (by simp)) (fun i hi hl => by simp only [List.mem_cons, List.not_mem_nil, or_false] at hi; have := HBL.out; omega)⟩
end Go.Proofs.YtmklodligplbaaaGreat
