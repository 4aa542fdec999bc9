import Derived.Test.YtmklodligplbaabGreatD8bo
open Go.RowKit
set_option linter.unusedVariables false
set_option linter.unusedSimpArgs false
set_option maxRecDepth 100000
set_option maxHeartbeats 0
namespace Go.Proofs.YtmklodligplbaabGreat
section
open Dlt
theorem width_yes {w : World} {b : Nat} {ao : Option Addr} {cap : Nat} {xs : List UInt8} {s : Rs} (h : RdS w b ao cap xs s) (hw : Dlt.isW (stNumber xs s).1 = true) :
  Calls Tryz.prog 87 #[stV b] w fun e w' => e = .returned (.int .i64 (stNumber xs s).1) ∧ RdS w' b ao cap xs (stNumber xs s).2 ∧ Kept [b] w w' := by
 have hK := ka w (.cells (stC b).toArray 145)
 have hnu := number_yes 1 32 (h.later hK) hw
 have hrg := (Sx.new w b).range
 clear hw h
 go_enter Tryz.func87, Tryz.ntmps87
 go_wp2_with (first
  | refine wpList_load_mid rfl 145 (.tmp 1) rfl w.heap.size 0 rfl (stC b) _ hrg Tryz.underlying145 rfl Tryz.infoStrict ?_
  | (go_at_call 90; refine hnu.mono ?_; rintro r w2 ⟨rfl, hr2, hk2⟩; have H2 := hide (ai hr2 hk2); clear hnu hr2 hk2))
 go_ret
 exact ⟨rfl, H2.out.1, (hK.mono (by simp)).tr H2.out.2⟩
theorem width_no {w : World} {b : Nat} {ao : Option Addr} {cap : Nat} {xs : List UInt8} {s : Rs} (h : RdS w b ao cap xs s) (hw : Dlt.isW (stNumber xs s).1 = false) :
  Calls Tryz.prog 87 #[stV b] w fun e w' => e = gaveUp8 ∧ Kept [b] w w' := by
 have hK := ka w (.cells (stC b).toArray 145)
 have hnu := number_no 1 32 (h.later hK) hw
 have hrg := (Sx.new w b).range
 clear hw h
 go_enter Tryz.func87, Tryz.ntmps87
 go_wp2_with (first
  | refine wpList_load_mid rfl 145 (.tmp 1) rfl w.heap.size 0 rfl (stC b) _ hrg Tryz.underlying145 rfl Tryz.infoStrict ?_
  | (go_at_call 90; refine hnu.mono ?_; rintro r w2 ⟨rfl, hk2⟩; have H2 := hide hk2; clear hnu hk2))
 exact ⟨rfl, rfl, (hK.mono (by simp)).tr H2.out⟩
theorem size_yes {w : World} {b : Nat} {ao : Option Addr} {cap : Nat} {xs : List UInt8} {s : Rs} (h : RdS w b ao cap xs s) (hw : Dlt.isZ (stNumber xs s).1 = true) :
  Calls Tryz.prog 88 #[stV b] w fun e w' => e = .returned (.int .i64 (stNumber xs s).1) ∧ RdS w' b ao cap xs (stNumber xs s).2 ∧ Kept [b] w w' := by
 have hK := ka w (.cells (stC b).toArray 145)
 have hnu := number_yes 16 4096 (h.later hK) hw
 have hrg := (Sx.new w b).range
 clear hw h
 go_enter Tryz.func88, Tryz.ntmps88
 go_wp2_with (first
  | refine wpList_load_mid rfl 145 (.tmp 1) rfl w.heap.size 0 rfl (stC b) _ hrg Tryz.underlying145 rfl Tryz.infoStrict ?_
  | (go_at_call 90; refine hnu.mono ?_; rintro r w2 ⟨rfl, hr2, hk2⟩; have H2 := hide (ai hr2 hk2); clear hnu hr2 hk2))
 go_ret
 exact ⟨rfl, H2.out.1, (hK.mono (by simp)).tr H2.out.2⟩
theorem size_no {w : World} {b : Nat} {ao : Option Addr} {cap : Nat} {xs : List UInt8} {s : Rs} (h : RdS w b ao cap xs s) (hw : Dlt.isZ (stNumber xs s).1 = false) :
  Calls Tryz.prog 88 #[stV b] w fun e w' => e = gaveUp8 ∧ Kept [b] w w' := by
 have hK := ka w (.cells (stC b).toArray 145)
 have hnu := number_no 16 4096 (h.later hK) hw
 have hrg := (Sx.new w b).range
 clear hw h
 go_enter Tryz.func88, Tryz.ntmps88
 go_wp2_with (first
  | refine wpList_load_mid rfl 145 (.tmp 1) rfl w.heap.size 0 rfl (stC b) _ hrg Tryz.underlying145 rfl Tryz.infoStrict ?_
  | (go_at_call 90; refine hnu.mono ?_; rintro r w2 ⟨rfl, hk2⟩; have H2 := hide hk2; clear hnu hk2))
 exact ⟨rfl, rfl, (hK.mono (by simp)).tr H2.out⟩
theorem length_yes {w : World} {b : Nat} {ao : Option Addr} {cap : Nat} {xs : List UInt8} {s : Rs} (h : RdS w b ao cap xs s) (hw : Dlt.within (stNumber xs s).1 0 131072 = true) :
  Calls Tryz.prog 94 #[stV b] w fun e w' => e = .returned (.int .i64 (stNumber xs s).1) ∧ RdS w' b ao cap xs (stNumber xs s).2 ∧ Kept [b] w w' := by
 have hK := ka w (.cells (stC b).toArray 145)
 have hnu := number_yes 0 131072 (h.later hK) hw
 have hrg := (Sx.new w b).range
 clear hw h
 go_enter Tryz.func94, Tryz.ntmps94
 go_wp2_with (first
  | refine wpList_load_mid rfl 145 (.tmp 1) rfl w.heap.size 0 rfl (stC b) _ hrg Tryz.underlying145 rfl Tryz.infoStrict ?_
  | (go_at_call 90; refine hnu.mono ?_; rintro r w2 ⟨rfl, hr2, hk2⟩; have H2 := hide (ai hr2 hk2); clear hnu hr2 hk2))
 go_ret
 exact ⟨rfl, H2.out.1, (hK.mono (by simp)).tr H2.out.2⟩
theorem length_no {w : World} {b : Nat} {ao : Option Addr} {cap : Nat} {xs : List UInt8} {s : Rs} (h : RdS w b ao cap xs s) (hw : Dlt.within (stNumber xs s).1 0 131072 = false) :
  Calls Tryz.prog 94 #[stV b] w fun e w' => e = gaveUp8 ∧ Kept [b] w w' := by
 have hK := ka w (.cells (stC b).toArray 145)
 have hnu := number_no 0 131072 (h.later hK) hw
 have hrg := (Sx.new w b).range
 clear hw h
 go_enter Tryz.func94, Tryz.ntmps94
 go_wp2_with (first
  | refine wpList_load_mid rfl 145 (.tmp 1) rfl w.heap.size 0 rfl (stC b) _ hrg Tryz.underlying145 rfl Tryz.infoStrict ?_
  | (go_at_call 90; refine hnu.mono ?_; rintro r w2 ⟨rfl, hk2⟩; have H2 := hide hk2; clear hnu hk2))
 exact ⟨rfl, rfl, (hK.mono (by simp)).tr H2.out⟩
theorem copy_pad {v : World} {A : Nat} {ao : Option Addr} {ys : List UInt8} (hA : v.heap[A]? = some (.cells zero32 23 (0, 0))) (hs : Sl v ao ys) (hl : ys.length <= 32) (cap : Nat) :
  ∃ v2, (Builtin.copy_ #[27, 27] 3 #[.slice (some ⟨A, 0, none⟩) 32 32, .slice ao ys.length cap]).run Tryz.prog v = .ok (.int .i64 ys.length) v2 ∧ v2.heap[A]? = some (.cells (bys (pad ys)).toArray 23 (0, 0)) ∧ Kept [A] v v2 := by
 by_cases h0 : ys = []
 ·subst h0
  refine ⟨v, run_copy_none v 27 27 3 5 _ ao 32 32 0 cap Tryz.underlying27 Tryz.sizeByte (by simp), ?_, Kept.refl _ _⟩
  rw [hA]; rfl
 ·obtain ⟨g5, o5, rfl, hg5, hc5⟩ := hs.open h0
  have hcr := run_copy_row (P := Tryz.prog) v 27 27 3 5 A 0 32 32 ⟨g5, o5, none⟩ ys.length cap _ _ (bys ys) Tryz.underlying27 Tryz.sizeByte hA (by rw [bys_length]; exact (Nat.min_eq_left hl).symm) (fun j u hv => by
   obtain ⟨hj, rfl⟩ := bys_get hv
   rw [Addr.add_mid]; exact hc5 j hj) (by rw [bys_length]; show _ <= 32; omega) (bys_oneCell ys)
  rw [bys_length] at hcr
  refine ⟨_, hcr, ?_, kept_row v _ _⟩
  rw [setRow_heap _ _ _ _ _ _ hA]
  refine congrArg (fun q : List Value => some (Obj.cells q.toArray 23 (0, 0))) ?_
  rw [List.take_zero, List.nil_append, Nat.zero_add]
  unfold pad
  rw [bys_append, List.take_of_length_le hl]
  congr 1
  show (bys (List.replicate 32 0)).drop ys.length = _
  rw [bys, bys, List.map_replicate, List.map_replicate, List.drop_replicate]
theorem Tryz.slice32g (W : World) (b : Nat) :
  (Instr.sliceAt 23 (.pointer (some ⟨b, 0, none⟩)) none none none).run Tryz.prog W = .ok (.slice (some ⟨b, 0, none⟩) 32 32) W := by
 have ha : Tryz.prog.arrayLen 23 = 32 := by kernel_rfl
 have hz : (sizeOf (Tryz.prog.elem 23)).run Tryz.prog W = .ok 1 W := by kernel_rfl
 have h := run_sliceAt_array_all (P := Tryz.prog) W 23 ⟨b, 0, none⟩ (by kernel_rfl)
 rw [h, hz, ha]
 simp [slicedAt, Addr.add_mid]
theorem id_ok {w : World} {b : Nat} {ao : Option Addr} {cap : Nat} {xs : List UInt8} {s : Rs} (h : RdS w b ao cap xs s) (n : Nat) (hn : n <= 32) :
  Calls Tryz.prog 95 #[stV b, .int .i64 n] w fun e w' => e = .returned (.agg (bys (pad (stRaw xs s n).1)).toArray) ∧ RdS w' b ao cap xs (stRaw xs s n).2 ∧ Kept [b] w w' := by
 have hz := Tryz.zeroID
 obtain ⟨w1, hw1⟩ := nm (((w.alloc (.cells (stC b).toArray 145)).alloc (.cells zero32 23)).alloc (.cells zero32 23))
 have k1 := ka w (.cells (stC b).toArray 145)
 have k2 : Kept [] (w.alloc (.cells (stC b).toArray 145)) ((w.alloc (.cells (stC b).toArray 145)).alloc (.cells zero32 23)) := (Kept.refl [] _).alloc _
 have k3 : Kept [] ((w.alloc (.cells (stC b).toArray 145)).alloc (.cells zero32 23)) w1 := by rw [<-hw1]; exact (Kept.refl [] _).alloc _
 have z1 : (w.alloc (.cells (stC b).toArray 145)).heap.size = w.heap.size + 1 := by simp
 have z2 : ((w.alloc (.cells (stC b).toArray 145)).alloc (.cells zero32 23)).heap.size = w.heap.size + 1 + 1 := by simp
 have z3 : w1.heap.size = w.heap.size + 1 + 1 + 1 := by rw [<-hw1]; simp
 have hX : Sx w1 w.heap.size b := ((Sx.new w b).kept k2 (by simp)).kept k3 (by simp)
 have hE : w1.heap[w.heap.size + 1]? = some (.cells zero32 23 (0, 0)) := by
  rw [k3.block _ (by omega) (by simp), <-z1]; exact heap_new _ _
 have hA : w1.heap[w.heap.size + 1 + 1]? = some (.cells zero32 23 (0, 0)) := by
  rw [<-hw1, <-z2]; exact heap_new _ _
 have hkk : Kept [] w w1 := (k1.tr k2).tr k3
 have HR := hide (h.later hkk)
 have hlt := h.lt
 have HBL : Hid (xs ≠ [] -> ∀ a, ao = some a -> a.block < w.heap.size) := fun hx a ha => h.blk hx a ha
 have HLE : Hid ((stRaw xs s n).1.length <= 32) := Nat.le_trans (raw_len xs s n) hn
 have sl32 := fun W => Tryz.slice32g W (w.heap.size + 1 + 1)
 clear k1 k2 k3 z1 z2 h
 go_enter Tryz.func95, Tryz.ntmps95
 go_upto_region 2 with (fail)
 clear hw1 hz
 obtain ⟨G, hG⟩ := nm (w.heap.size)
 obtain ⟨E, hE0⟩ := nm (G + 1)
 obtain ⟨A, hA0⟩ := nm (E + 1)
 rw [hG] at hX hE hA sl32 z3 hlt
 simp only [hG]
 rw [hE0] at hE hA sl32 z3 ⊢
 rw [hA0] at hA sl32 z3 ⊢
 have HGE := hide (ai hG (ai hE0 hA0))
 have HAB : Hid (A ≠ b) := by show A ≠ b; omega
 have HEB : Hid (E ≠ b ∧ E ≠ A) := by show E ≠ b ∧ E ≠ A; omega
 have HNB : Hid (G ∉ [b, A]) := by show G ∉ [b, A]; simp; omega
 have HAL : Hid (A < w1.heap.size) := by show A < _; omega
 clear hG hE0 hA0 z3 hlt
 have HX := hide hX
 have cb := hX.cell
 clear hX
 have K0 : Kept [] w1 (World.drew w1) := (Kept.refl [] w1).drew
 have K0x : Kept [b] w1 (World.drew w1) := (Kept.refl [b] w1).drew
 refine wp_region_held_drew (S := fun w' => Kept [b, A] w1 w') (by kernel_rfl) ((Kept.refl [b, A] w1).drew) (fun h0 => ?_)
 generalize World.drew w1 = v0 at h0 K0 K0x ⊢
 refine t2 0 (.slice (some ⟨A, 0, none⟩) 32 32) rfl h0 ?_ (fun w hSw => by have c0 := sl32 w; go_simp)
 simp only [zz]
 refine t1 1 (.pointer (some ⟨G, 0, none⟩)) h0 ?_
 simp only [zz]
 refine t2 2 (.pointer (some ⟨b, 0, none⟩)) rfl h0 ?_ (fun w hSw => by have c0 := Kept.cellOf hSw cb HNB.out; go_simp)
 simp only [zz]
 refine t1 3 (.int .i64 n) h0 ?_
 simp only [zz]
 refine rd 4 fun K hK => ?_
 go_simp
 refine (raw_st (HR.out.later K0) n).mono ?_
 rintro e v1 ⟨⟨ao5, cap5, rfl, hfr5⟩, hk5, hr5⟩
 have K1 := K0x.tr hk5
 have hA5 : v1.heap[A]? = some (.cells zero32 23 (0, 0)) := (hk5.block A (Nat.lt_of_lt_of_le HAL.out K0.size) (by simpa using HAB.out)).trans ((K0.block A HAL.out (by simp)).trans hA)
 refine hK.out _ _ (h0.tr hk5) (fun h1 => ?_)
 clear hK K
 try simp only [zz]
 clear hk5 h0 K0 K0x
 obtain ⟨v2, hrun, hA6, hk6⟩ := copy_pad hA5 hfr5.1 (HLE.out) cap5
 refine rd 5 fun K hK => ?_
 refine wp_copy_run8 _ _ _ 27 27 rfl _ _ rfl rfl hrun ?_
 refine hK.out _ _ (h1.tr hk6) (fun h2 => ?_)
 clear hK K hrun h1 h2
 try simp only [zz]
 refine qd ?_
 have hE2 : v2.heap[E]? = some (.cells zero32 23 (0, 0)) := by
  rw [hk6.block E (Nat.lt_of_lt_of_le (gs hE).1 K1.size) (by have := HEB.out; simp; omega), K1.block E (gs hE).1 (by have := HEB.out; simp; omega)]
  exact hE
 have hrA := row_rangeK hA6
 have hpl := pad_len (stRaw xs s n).1
 have HKF : Hid (Kept [b] w v2 ∧ RdS v2 b ao cap xs (stRaw xs s n).2) := by
  refine ⟨((hkk.mono (by simp)).tr K1).trans hk6 (fun i hi hl => ?_), hr5.kept hk6 (by have := HAB.out; simp; omega) (fun hx a ha => ?_)⟩
  ·simp only [List.mem_singleton] at hi
   obtain ⟨h1, h2, h3⟩ := HGE.out
   omega
  ·have h4 := HBL.out hx a ha
   obtain ⟨h1, h2, h3⟩ := HGE.out
   simp
   omega
 obtain ⟨I, hI⟩ := nm (pad (stRaw xs s n).1)
 rw [hI] at hA6 hrA hpl
 have HI := hide hI
 clear hI
 have hil := idlen hpl
 have hia : (Tryz.prog.info? 23).map (·.size) = some (bys I).toArray.size := by rw [List.size_toArray]; exact hil
 have hzs : zero32.size = (bys I).toArray.size := by show 32 = _; rw [List.size_toArray, bys_length, hpl]
 have hal := bys_all I
 clear hA hE HX cb hr5 hfr5 K1 hk6 sl32
 go_wp2_with (first
  | refine wpList_load_mid rfl 23 (.tmp 5) rfl A 0 rfl (bys I) _ hrA Tryz.underlying23 rfl hil ?_
  | refine wpList_store_rowTo rfl 23 (.tmp 4) (.tmp 12) rfl rfl E (bys I).toArray rfl rfl 23 zero32 hE2 hia hzs hal ?_)
 have hkE := kept_row v2 E (bys I).toArray
 have hF1 : RdS (v2.setRow E (bys I).toArray) b ao cap xs (stRaw xs s n).2 := HKF.out.2.kept hkE (by have := HEB.out; simp; omega) (fun hx a ha => by
  have h4 := HBL.out hx a ha
  obtain ⟨h1, h2, h3⟩ := HGE.out
  simp
  omega)
 have hF2 : Kept [b] w (v2.setRow E (bys I).toArray) := HKF.out.1.trans hkE (fun i hi hl => by
  simp only [List.mem_singleton] at hi
  obtain ⟨h1, h2, h3⟩ := HGE.out
  omega)
 exact ret_row rfl rfl E 23 (bys I).toArray (0, 0) _ rfl (setRow_heap _ _ _ _ _ _ hE2) Tryz.underlying23 rfl hia ⟨by rw [HI.out], hF1, hF2⟩
theorem end_left {w : World} {b : Nat} {ao : Option Addr} {cap : Nat} {xs : List UInt8} {s : Rs} (h : RdS w b ao cap xs s) (dao : Option Addr) (n dcap : Nat) (hn : xs.length = n) (hc : n <= dcap) (hm : n <= 100000000000) (hs : Sl w dao xs) (hfar : xs ≠ [] -> ∀ a, dao = some a -> a.block ≠ b) (hL : stLeft xs s ≠ 4) :
  Calls Tryz.prog 93 #[stV b, .slice dao n dcap] w fun e w' => e = gaveUp8 ∧ Kept [b] w w' := by
 have hK := ka w (.cells (stC b).toArray 145)
 have hX := Sx.new w b
 have HR := hide (h.later hK)
 have hlt := h.lt
 have HNB : Hid (w.heap.size ∉ [b]) := by show _ ∉ [b]; simp; omega
 have HN0 : Hid (w.heap.size ∉ ([] : List Nat)) := by show _ ∉ _; simp
 have HS := hide (hs.kept hK (by simp))
 have HD := hide (ai hn (ai hc (ai hm hfar)))
 have HK := hide hK
 clear hn hc hm hs hfar h hlt
 obtain ⟨G, hG⟩ := nm (w.heap.size)
 rw [hG] at hX HNB HN0
 have HX := hide hX
 have cb := hX.cell
 go_enter Tryz.func93, Tryz.ntmps93
 go_upto_region 1 with (fail)
 clear hG hX hK
 generalize w.alloc (.cells (stC b).toArray 145) = w1 at *
 obtain ⟨lf, hlf⟩ := nm (stLeft xs s)
 obtain ⟨q, hq0⟩ := nm ((lf == 4))
 have HLF := hide (ai hlf hq0)
 clear hlf
 refine th w1 fun h0 => ?_
 generalize World.drew w1 = v0 at h0  ⊢
 refine t4 0 (stV b) rfl (yieldsIf_load_mid (by rfl) _ _ rfl G 0 rfl (stC b) _ (fun W h => (HX.out.kept h HN0.out).range) Tryz.underlying145 rfl Tryz.infoStrict) h0 ?_
 simp only [zz]
 refine t1 1 (.pointer (some ⟨G, 0, none⟩)) h0 ?_
 simp only [zz]
 refine t2 2 (.pointer (some ⟨b, 0, none⟩)) rfl h0 ?_ (fun w hSw => by have c0 := Kept.cellOf hSw cb HN0.out; go_simp)
 simp only [zz]
 refine rd 3 fun K hK => ?_
 go_simp
 refine (left_st (HR.out.later h0)).mono ?_
 rintro e v1 ⟨rfl, m, hq⟩
 have hq' : Kept [] v0 v1 := by rw [hq]; exact (Kept.refl [] v0).drewN m
 clear hq
 rw [HLF.out.1]
 refine hK.out _ _ (h0.trans hq' (by simp)) (fun h1 => ?_)
 clear hK K
 try simp only [zz]
 clear hq' h0
 refine t1 4 (.bool q) h1 ?_
 simp only [zz]
 have hqf : q = false := by rw [<-HLF.out.2]; simp only [beq_eq_false_iff_ne, ne_eq]; rw [<-HLF.out.1]; exact hL
 subst hqf
 refine rd 5 fun K hK => ?_
 go_simp
 refine (must_no b v1).mono ?_
 rintro e v2 ⟨rfl, hq⟩
 exact ⟨rfl, rfl, ((HK.out.mono (by simp)).tr h1).tr hq⟩
theorem end_sum {w : World} {b : Nat} {ao : Option Addr} {cap : Nat} {xs : List UInt8} {s : Rs} (h : RdS w b ao cap xs s) (dao : Option Addr) (n dcap : Nat) (hn : xs.length = n) (hc : n <= dcap) (hm : n <= 100000000000) (hs : Sl w dao xs) (hfar : xs ≠ [] -> ∀ a, dao = some a -> a.block ≠ b) (hL : stLeft xs s = 4) (hF : (stFixed xs s 4).1 ≠ (Pure.sum (xs.take (xs.length - 4)) : Nat)) :
  Calls Tryz.prog 93 #[stV b, .slice dao n dcap] w fun e w' => e = gaveUp8 ∧ Kept [b] w w' := by
 have hK := ka w (.cells (stC b).toArray 145)
 have hX := Sx.new w b
 have HR := hide (h.later hK)
 have hlt := h.lt
 have HNB : Hid (w.heap.size ∉ [b]) := by show _ ∉ [b]; simp; omega
 have HN0 : Hid (w.heap.size ∉ ([] : List Nat)) := by show _ ∉ _; simp
 have HS := hide (hs.kept hK (by simp))
 have HD := hide (ai hn (ai hc (ai hm hfar)))
 have HK := hide hK
 clear hn hc hm hs hfar h hlt
 obtain ⟨G, hG⟩ := nm (w.heap.size)
 rw [hG] at hX HNB HN0
 have HX := hide hX
 have cb := hX.cell
 go_enter Tryz.func93, Tryz.ntmps93
 go_upto_region 1 with (fail)
 clear hG hX hK
 generalize w.alloc (.cells (stC b).toArray 145) = w1 at *
 obtain ⟨lf, hlf⟩ := nm (stLeft xs s)
 obtain ⟨q, hq0⟩ := nm ((lf == 4))
 have HLF := hide (ai hlf hq0)
 clear hlf
 refine th w1 fun h0 => ?_
 generalize World.drew w1 = v0 at h0  ⊢
 refine t4 0 (stV b) rfl (yieldsIf_load_mid (by rfl) _ _ rfl G 0 rfl (stC b) _ (fun W h => (HX.out.kept h HN0.out).range) Tryz.underlying145 rfl Tryz.infoStrict) h0 ?_
 simp only [zz]
 refine t1 1 (.pointer (some ⟨G, 0, none⟩)) h0 ?_
 simp only [zz]
 refine t2 2 (.pointer (some ⟨b, 0, none⟩)) rfl h0 ?_ (fun w hSw => by have c0 := Kept.cellOf hSw cb HN0.out; go_simp)
 simp only [zz]
 refine rd 3 fun K hK => ?_
 go_simp
 refine (left_st (HR.out.later h0)).mono ?_
 rintro e v1 ⟨rfl, m, hq⟩
 have hq' : Kept [] v0 v1 := by rw [hq]; exact (Kept.refl [] v0).drewN m
 clear hq
 rw [HLF.out.1]
 refine hK.out _ _ (h0.trans hq' (by simp)) (fun h1 => ?_)
 clear hK K
 try simp only [zz]
 clear hq' h0
 refine t1 4 (.bool q) h1 ?_
 simp only [zz]
 have hqt : q = true := by rw [<-HLF.out.2]; simp only [beq_iff_eq]; rw [<-HLF.out.1]; exact hL
 subst hqt
 refine rd 5 fun K hK => ?_
 go_simp
 refine (must_yes b v1).mono ?_
 rintro e v2 ⟨rfl, hq⟩
 refine hK.out _ _ (h1.tr hq) (fun h2 => ?_)
 clear hK K
 try simp only [zz]
 refine qd ?_
 clear hq h1 hq0
 have hn4 : 4 <= n := by
  have h4 := hL
  unfold stLeft at h4
  have := HD.out.1
  split at h4
  ·omega
  ·omega
 go_upto_region 2 with (fail)
 have HR2 := hide (HR.out.later h2)
 have HX2 := hide (HX.out.kept h2 HN0.out)
 have HS2 := hide ((HS.out.kept h2 (by simp)).take (n - 4))
 have HK2 := hide ((HK.out.mono (l2 := [b]) (by simp)).tr h2)
 have cb2 := HX2.out.cell
 clear HX HR HS HK cb h2
 have hcut := fun W => Tryz.cutTo W dao n dcap (n - 4) (by have := HD.out.2.1; omega)
 have hsub : (n : Int) - 4 = ((n - 4 : Nat) : Int) := by omega
 have hnm : n <= 100000000000 := HD.out.2.2.1
 have htl : (xs.take (n - 4)).length = n - 4 := by rw [List.length_take, HD.out.1]; omega
 have hwr : IntKind.i64.wrap ((n - 4 : Nat) : Int) = ((n - 4 : Nat) : Int) := wrap64 (by omega) (by omega)
 have HFR : Hid (xs.take (n - 4) ≠ [] -> ∀ a, dao = some a -> a.block ∉ [b]) := fun hx a ha => by
  have h1 := HD.out.2.2.2 (by rintro rfl; simp at hx) a ha
  simpa using h1
 rw [HD.out.1] at hF
 have HTL := hide htl
 obtain ⟨N4, hN4⟩ := nm (n - 4)
 rw [hN4] at hcut hsub hwr HS2 HFR HTL hF
 generalize xs.take N4 = ys at HS2 HFR HTL hF
 clear hN4 htl
 have HTL2 : Hid (N4 <= 100000000000) := by show _ <= _; omega
 refine wp_region_held_drew (S := fun w' => Kept [b] v2 w') (by kernel_rfl) ((Kept.refl [b] v2).drew) (fun g0 => ?_)
 have gk : Kept [] v2 (World.drew v2) := (Kept.refl [] v2).drew
 generalize World.drew v2 = u0 at g0 gk ⊢
 refine t4 0 (stV b) rfl (yieldsIf_load_mid (by rfl) _ _ rfl G 0 rfl (stC b) _ (fun W h => (HX2.out.kept h HNB.out).range) Tryz.underlying145 rfl Tryz.infoStrict) g0 ?_
 simp only [zz]
 refine t1 1 (.pointer (some ⟨G, 0, none⟩)) g0 ?_
 simp only [zz]
 refine t2 2 (.pointer (some ⟨b, 0, none⟩)) rfl g0 ?_ (fun w hSw => by have c0 := Kept.cellOf hSw cb2 HNB.out; go_simp)
 simp only [zz]
 refine t1 4 (.slice dao n dcap) g0 ?_
 simp only [zz]
 refine t1 5 (.slice dao n dcap) g0 ?_
 simp only [zz]
 refine t1 6 (.int .i64 n) g0 ?_
 simp only [zz]
 refine t1 7 (.int .i64 N4) g0 ?_
 simp only [zz]
 refine t2 8 (.slice dao N4 dcap) rfl g0 ?_ (fun w hSw => by have c0 := hcut w; go_simp)
 simp only [zz]
 refine rd 3 fun K hK => ?_
 go_simp
 refine (rfixed_st (HR2.out.later gk) 4).mono ?_
 rintro e u1 ⟨rfl, hk5, hr5⟩
 refine hK.out _ _ (g0.tr hk5) (fun g1 => ?_)
 clear hK K
 try simp only [zz]
 clear gk g0 hk5 hr5
 refine rd 9 fun K hK => ?_
 go_simp
 refine (sum_at (cap := dcap) HTL.out HTL2.out (HS2.out.kept g1 HFR.out)).mono ?_
 rintro e u2 ⟨rfl, hk6⟩
 refine hK.out _ _ (g1.tr hk6) (fun g2 => ?_)
 clear hK K
 try simp only [zz]
 clear g1 hk6
 have hne : ((stFixed xs s 4).1 == (Pure.sum ys : Int)) = false := by simp only [beq_eq_false_iff_ne, ne_eq]; exact hF
 refine t1 10 (.bool false) g2 ?_
 simp only [zz]
 refine rd 11 fun K hK => ?_
 go_simp
 refine (must_no b u2).mono ?_
 rintro e u3 ⟨rfl, hq⟩
 exact ⟨rfl, rfl, (HK2.out.tr g2).tr hq⟩
theorem end_yes {w : World} {b : Nat} {ao : Option Addr} {cap : Nat} {xs : List UInt8} {s : Rs} (h : RdS w b ao cap xs s) (dao : Option Addr) (n dcap : Nat) (hn : xs.length = n) (hc : n <= dcap) (hm : n <= 100000000000) (hs : Sl w dao xs) (hfar : xs ≠ [] -> ∀ a, dao = some a -> a.block ≠ b) (hL : stLeft xs s = 4) (hF : (stFixed xs s 4).1 = (Pure.sum (xs.take (xs.length - 4)) : Nat)) :
  Calls Tryz.prog 93 #[stV b, .slice dao n dcap] w fun e w' => e = .returned (.tuple #[]) ∧ Kept [b] w w' := by
 have hK := ka w (.cells (stC b).toArray 145)
 have hX := Sx.new w b
 have HR := hide (h.later hK)
 have hlt := h.lt
 have HNB : Hid (w.heap.size ∉ [b]) := by show _ ∉ [b]; simp; omega
 have HN0 : Hid (w.heap.size ∉ ([] : List Nat)) := by show _ ∉ _; simp
 have HS := hide (hs.kept hK (by simp))
 have HD := hide (ai hn (ai hc (ai hm hfar)))
 have HK := hide hK
 clear hn hc hm hs hfar h hlt
 obtain ⟨G, hG⟩ := nm (w.heap.size)
 rw [hG] at hX HNB HN0
 have HX := hide hX
 have cb := hX.cell
 go_enter Tryz.func93, Tryz.ntmps93
 go_upto_region 1 with (fail)
 clear hG hX hK
 generalize w.alloc (.cells (stC b).toArray 145) = w1 at *
 obtain ⟨lf, hlf⟩ := nm (stLeft xs s)
 obtain ⟨q, hq0⟩ := nm ((lf == 4))
 have HLF := hide (ai hlf hq0)
 clear hlf
 refine th w1 fun h0 => ?_
 generalize World.drew w1 = v0 at h0  ⊢
 refine t4 0 (stV b) rfl (yieldsIf_load_mid (by rfl) _ _ rfl G 0 rfl (stC b) _ (fun W h => (HX.out.kept h HN0.out).range) Tryz.underlying145 rfl Tryz.infoStrict) h0 ?_
 simp only [zz]
 refine t1 1 (.pointer (some ⟨G, 0, none⟩)) h0 ?_
 simp only [zz]
 refine t2 2 (.pointer (some ⟨b, 0, none⟩)) rfl h0 ?_ (fun w hSw => by have c0 := Kept.cellOf hSw cb HN0.out; go_simp)
 simp only [zz]
 refine rd 3 fun K hK => ?_
 go_simp
 refine (left_st (HR.out.later h0)).mono ?_
 rintro e v1 ⟨rfl, m, hq⟩
 have hq' : Kept [] v0 v1 := by rw [hq]; exact (Kept.refl [] v0).drewN m
 clear hq
 rw [HLF.out.1]
 refine hK.out _ _ (h0.trans hq' (by simp)) (fun h1 => ?_)
 clear hK K
 try simp only [zz]
 clear hq' h0
 refine t1 4 (.bool q) h1 ?_
 simp only [zz]
 have hqt : q = true := by rw [<-HLF.out.2]; simp only [beq_iff_eq]; rw [<-HLF.out.1]; exact hL
 subst hqt
 refine rd 5 fun K hK => ?_
 go_simp
 refine (must_yes b v1).mono ?_
 rintro e v2 ⟨rfl, hq⟩
 refine hK.out _ _ (h1.tr hq) (fun h2 => ?_)
 clear hK K
 try simp only [zz]
 refine qd ?_
 clear hq h1 hq0
 have hn4 : 4 <= n := by
  have h4 := hL
  unfold stLeft at h4
  have := HD.out.1
  split at h4
  ·omega
  ·omega
 go_upto_region 2 with (fail)
 have HR2 := hide (HR.out.later h2)
 have HX2 := hide (HX.out.kept h2 HN0.out)
 have HS2 := hide ((HS.out.kept h2 (by simp)).take (n - 4))
 have HK2 := hide ((HK.out.mono (l2 := [b]) (by simp)).tr h2)
 have cb2 := HX2.out.cell
 clear HX HR HS HK cb h2
 have hcut := fun W => Tryz.cutTo W dao n dcap (n - 4) (by have := HD.out.2.1; omega)
 have hsub : (n : Int) - 4 = ((n - 4 : Nat) : Int) := by omega
 have hnm : n <= 100000000000 := HD.out.2.2.1
 have htl : (xs.take (n - 4)).length = n - 4 := by rw [List.length_take, HD.out.1]; omega
 have hwr : IntKind.i64.wrap ((n - 4 : Nat) : Int) = ((n - 4 : Nat) : Int) := wrap64 (by omega) (by omega)
 have HFR : Hid (xs.take (n - 4) ≠ [] -> ∀ a, dao = some a -> a.block ∉ [b]) := fun hx a ha => by
  have h1 := HD.out.2.2.2 (by rintro rfl; simp at hx) a ha
  simpa using h1
 rw [HD.out.1] at hF
 have HTL := hide htl
 obtain ⟨N4, hN4⟩ := nm (n - 4)
 rw [hN4] at hcut hsub hwr HS2 HFR HTL hF
 generalize xs.take N4 = ys at HS2 HFR HTL hF
 clear hN4 htl
 have HTL2 : Hid (N4 <= 100000000000) := by show _ <= _; omega
 refine wp_region_held_drew (S := fun w' => Kept [b] v2 w') (by kernel_rfl) ((Kept.refl [b] v2).drew) (fun g0 => ?_)
 have gk : Kept [] v2 (World.drew v2) := (Kept.refl [] v2).drew
 generalize World.drew v2 = u0 at g0 gk ⊢
 refine t4 0 (stV b) rfl (yieldsIf_load_mid (by rfl) _ _ rfl G 0 rfl (stC b) _ (fun W h => (HX2.out.kept h HNB.out).range) Tryz.underlying145 rfl Tryz.infoStrict) g0 ?_
 simp only [zz]
 refine t1 1 (.pointer (some ⟨G, 0, none⟩)) g0 ?_
 simp only [zz]
 refine t2 2 (.pointer (some ⟨b, 0, none⟩)) rfl g0 ?_ (fun w hSw => by have c0 := Kept.cellOf hSw cb2 HNB.out; go_simp)
 simp only [zz]
 refine t1 4 (.slice dao n dcap) g0 ?_
 simp only [zz]
 refine t1 5 (.slice dao n dcap) g0 ?_
 simp only [zz]
 refine t1 6 (.int .i64 n) g0 ?_
 simp only [zz]
 refine t1 7 (.int .i64 N4) g0 ?_
 simp only [zz]
 refine t2 8 (.slice dao N4 dcap) rfl g0 ?_ (fun w hSw => by have c0 := hcut w; go_simp)
 simp only [zz]
 refine rd 3 fun K hK => ?_
 go_simp
 refine (rfixed_st (HR2.out.later gk) 4).mono ?_
 rintro e u1 ⟨rfl, hk5, hr5⟩
 refine hK.out _ _ (g0.tr hk5) (fun g1 => ?_)
 clear hK K
 try simp only [zz]
 clear gk g0 hk5 hr5
 refine rd 9 fun K hK => ?_
 go_simp
 refine (sum_at (cap := dcap) HTL.out HTL2.out (HS2.out.kept g1 HFR.out)).mono ?_
 rintro e u2 ⟨rfl, hk6⟩
 refine hK.out _ _ (g1.tr hk6) (fun g2 => ?_)
 clear hK K
 try simp only [zz]
 clear g1 hk6
 try rw [hF]
 refine t1 10 (.bool true) g2 ?_
 simp only [zz]
 refine rd 11 fun K hK => ?_
 go_simp
 refine (must_yes b u2).mono ?_
 rintro e u3 ⟨rfl, hq⟩
 refine hK.out _ _ (g2.tr hq) (fun g3 => ?_)
 clear hK K
 try simp only [zz]
 refine qd ?_
 go_end0
 exact ⟨rfl, HK2.out.tr g3⟩
end

section
open Dlt
theorem end_no {w : World} {b : Nat} {ao : Option Addr} {cap : Nat} {xs : List UInt8} {s : Rs} (h : RdS w b ao cap xs s) (dao : Option Addr) (n dcap : Nat) (hn : xs.length = n) (hc : n <= dcap) (hm : n <= 100000000000) (hs : Sl w dao xs) (hfar : xs ≠ [] -> ∀ a, dao = some a -> a.block ≠ b) (he : endOk xs s = false) :
  Calls Tryz.prog 93 #[stV b, .slice dao n dcap] w fun e w' => e = gaveUp8 ∧ Kept [b] w w' := by
 by_cases hL : stLeft xs s = 4
 ·refine end_sum h dao n dcap hn hc hm hs hfar hL (fun hF => ?_)
  simp [endOk, hL, hF] at he
 ·exact end_left h dao n dcap hn hc hm hs hfar hL
theorem end_ok {w : World} {b : Nat} {ao : Option Addr} {cap : Nat} {xs : List UInt8} {s : Rs} (h : RdS w b ao cap xs s) (dao : Option Addr) (n dcap : Nat) (hn : xs.length = n) (hc : n <= dcap) (hm : n <= 100000000000) (hs : Sl w dao xs) (hfar : xs ≠ [] -> ∀ a, dao = some a -> a.block ≠ b) (he : endOk xs s = true) :
  Calls Tryz.prog 93 #[stV b, .slice dao n dcap] w fun e w' => e = .returned (.tuple #[]) ∧ Kept [b] w w' := by
 simp only [endOk, Bool.and_eq_true, decide_eq_true_eq] at he
 exact end_yes h dao n dcap hn hc hm hs hfar he.1 he.2
theorem Tryz.zeroStrict (W : World) : (zeroValue 145).run Tryz.prog W = .ok (.agg #[.pointer none]) W := by kernel_rfl
theorem Tryz.builtStrict (p : Option Addr) (W : World) : (Instr.build 145 #[(0, .pointer p)]).run Tryz.prog W = .ok (.agg #[.pointer p]) W := by kernel_rfl
theorem open_long (ao : Option Addr) (n cap : Nat) (mark : Int) (w : World) (hn : 131072 < n) :
  Calls Tryz.prog 86 #[.slice ao n cap, .int .i64 mark] w fun e w' => e = gaveUp8 ∧ Kept [] w w' := by
 have hz := Tryz.zeroStrict
 have hK := ka w (.cells #[.pointer none] 145)
 have hg := giveUp_ok (w.alloc (.cells #[.pointer none] 145))
 have hnz : (131072 : Int) < (n : Int) := by omega
 go_enter Tryz.func86, Tryz.ntmps86
 go_wp2_with (go_at_call 113; refine hg.mono ?_; rintro r w' ⟨rfl, hw⟩; obtain rfl := hw.symm)
 exact ⟨rfl, rfl, hK⟩
theorem open_no (ao : Option Addr) (n cap : Nat) (mark : Int) (xs : List UInt8) (w : World) (hn : xs.length = n) (hm : n <= 131072) (hs : Sl w ao xs) (h0 : ao = none -> xs = [] ∧ cap = 0) (hk : mk xs ≠ mark) :
  Calls Tryz.prog 86 #[.slice ao n cap, .int .i64 mark] w fun e w' => e = gaveUp8 ∧ Kept [] w w' := by
 have hz := Tryz.zeroStrict
 have hb0 := Tryz.builtStrict
 have hK := ka w (.cells #[.pointer none] 145)
 have hE := heap_new w (.cells #[.pointer none] 145)
 have hnz : ¬ (131072 : Int) < (n : Int) := by omega
 have hrd := read_any ao n cap xs (w.alloc (.cells #[.pointer none] 145)) hn (by omega) (hs.kept hK (by simp)) h0
 have HK := hide hK
 have HKK := hide hk
 clear hn hm hs h0 hK hk
 obtain ⟨E, hE0⟩ := nm (w.heap.size)
 rw [hE0] at hE
 go_enter Tryz.func86, Tryz.ntmps86
 go_upto_region 3 with (fail)
 have HE0 := hide hE0
 clear hE0
 generalize w.alloc (.cells #[.pointer none] 145) = w1 at *
 go_upto_region 4 with (first
  | (go_at_call 114; refine hrd.mono ?_; rintro r w2 ⟨b, ao', cap', rfl, hb, hbl, hbl2, hR, hk2⟩; have H2 := hide (ai hb (ai hbl (ai (show RdS w2 b ao' cap' xs ⟨0, 0, 0⟩ from ⟨0, fun _ => rfl, hR⟩) hk2))); have hn2 := heap_new w2 (.cells #[.pointer none] 145); clear hrd hb hbl hbl2 hR hk2)
  | refine wpList_buildRun8 rfl 145 #[(0, .tmp 11)] rfl #[(0, .pointer (some ⟨b, 0, none⟩))] (by simp [Act.eval]) _ (hb0 _ _) ?_
  | refine wpList_store_rowTo rfl 145 (.tmp 5) (.tmp 12) rfl rfl w2.heap.size #[.pointer (some ⟨b, 0, none⟩)] rfl rfl 145 #[.pointer none] hn2 Tryz.infoStrict rfl rfl ?_)
 have hX := Sx.new w2 b
 have hk3 := ka w2 (.cells (stC b).toArray 145)
 obtain ⟨G, hG⟩ := nm (w2.heap.size)
 have hGb : b < G := by rw [<-hG]; exact H2.out.2.2.1.lt
 have hEG : E < G := by
  have h1 := H2.out.2.2.2.size
  have h2 := (gs hE).1
  omega
 rw [hG] at hX ⊢
 have HGN := hide (show G = w2.heap.size from hG.symm)
 clear hG hn2
 generalize w2.alloc (.cells (stC b).toArray 145) = w3 at hX hk3 ⊢
 have HR3 := hide (H2.out.2.2.1.later hk3)
 have HE3 : Hid (w3.heap[E]? = some (.cells #[.pointer none] 145 (0, 0))) := by
  have h2 := (gs hE).1
  show _ = _
  rw [hk3.block E (Nat.lt_of_lt_of_le h2 H2.out.2.2.2.size) (by simp), H2.out.2.2.2.block E h2 (by simp)]
  exact hE
 have HX := hide hX
 have cb := hX.cell
 have HK3 := hide ((HK.out.tr H2.out.2.2.2).tr hk3)
 have HNB : Hid (G ∉ [b]) := by show G ∉ [b]; simp; omega
 have HBW : Hid (w.heap.size <= b ∧ (∀ a, ao' = some a -> w.heap.size <= a.block) ∧ E ≠ b ∧ ∀ a, ao' = some a -> a.block ≠ E) := by
  have h1 := HK.out.size
  have h2 := H2.out.1
  have h3 := (gs hE).1
  exact ⟨by omega, fun a ha => Nat.le_trans h1 (H2.out.2.1 a ha), by omega, fun a ha => by have := H2.out.2.1 a ha; omega⟩
 have HEG := hide hEG
 clear hX hk3 H2 HK hE hEG hGb
 obtain ⟨v, hv⟩ := nm (mk xs)
 have HV := hide hv
 obtain ⟨q, hq0⟩ := nm ((v == mark))
 have HQ := hide hq0
 clear hv
 have k0 : Kept [] w3 (World.drew w3) := (Kept.refl [] w3).drew
 refine wp_region_held_drew (S := fun w' => Kept [b] w3 w') (by kernel_rfl) ((Kept.refl [b] w3).drew) (fun h0 => ?_)
 generalize World.drew w3 = v0 at h0 k0 ⊢
 refine t4 0 (stV b) rfl (yieldsIf_load_mid (by rfl) _ _ rfl G 0 rfl (stC b) _ (fun W h => (HX.out.kept h HNB.out).range) Tryz.underlying145 rfl Tryz.infoStrict) h0 ?_
 simp only [zz]
 refine t1 1 (.pointer (some ⟨G, 0, none⟩)) h0 ?_
 simp only [zz]
 refine t2 2 (.pointer (some ⟨b, 0, none⟩)) rfl h0 ?_ (fun w hSw => by have c0 := Kept.cellOf hSw cb HNB.out; go_simp)
 simp only [zz]
 refine t1 4 (.int .i64 mark) h0 ?_
 simp only [zz]
 refine rd 3 fun K hK => ?_
 go_simp
 refine (rfixed_st (HR3.out.later k0) 1).mono ?_
 rintro e v1 ⟨rfl, hk5, hr5⟩
 have hvv : (stFixed xs ⟨0, 0, 0⟩ 1).1 = v := HV.out
 rw [hvv]
 have HR5 := hide hr5
 clear hr5 hvv
 refine hK.out _ _ (h0.tr hk5) (fun h1 => ?_)
 clear hK K
 try simp only [zz]
 clear hk5 h0 k0
 refine t1 5 (.bool q) h1 ?_
 simp only [zz]
 have hqf : q = false := by rw [<-HQ.out]; simp only [beq_eq_false_iff_ne, ne_eq]; rw [<-HV.out]; exact HKK.out
 subst hqf
 refine rd 6 fun K hK => ?_
 go_simp
 refine (must_no b v1).mono ?_
 rintro e v2 ⟨rfl, hq⟩
 exact ⟨rfl, rfl, (HK3.out.trans h1 (fun i hi hl => by simp only [List.mem_singleton] at hi; have := HBW.out.1; omega)).tr hq⟩
theorem open_yes (ao : Option Addr) (n cap : Nat) (mark : Int) (xs : List UInt8) (w : World) (hn : xs.length = n) (hm : n <= 131072) (hs : Sl w ao xs) (h0 : ao = none -> xs = [] ∧ cap = 0) (hk : mk xs = mark) :
  Calls Tryz.prog 86 #[.slice ao n cap, .int .i64 mark] w fun e w' => ∃ b ao' cap', e = .returned (stV b) ∧ w.heap.size <= b ∧ (∀ a, ao' = some a -> w.heap.size <= a.block) ∧ RdS w' b ao' cap' xs (s1 xs) ∧ Kept [] w w' := by
 have hz := Tryz.zeroStrict
 have hb0 := Tryz.builtStrict
 have hK := ka w (.cells #[.pointer none] 145)
 have hE := heap_new w (.cells #[.pointer none] 145)
 have hnz : ¬ (131072 : Int) < (n : Int) := by omega
 have hrd := read_any ao n cap xs (w.alloc (.cells #[.pointer none] 145)) hn (by omega) (hs.kept hK (by simp)) h0
 have HK := hide hK
 have HKK := hide hk
 clear hn hm hs h0 hK hk
 obtain ⟨E, hE0⟩ := nm (w.heap.size)
 rw [hE0] at hE
 go_enter Tryz.func86, Tryz.ntmps86
 go_upto_region 3 with (fail)
 have HE0 := hide hE0
 clear hE0
 generalize w.alloc (.cells #[.pointer none] 145) = w1 at *
 go_upto_region 4 with (first
  | (go_at_call 114; refine hrd.mono ?_; rintro r w2 ⟨b, ao', cap', rfl, hb, hbl, hbl2, hR, hk2⟩; have H2 := hide (ai hb (ai hbl (ai (show RdS w2 b ao' cap' xs ⟨0, 0, 0⟩ from ⟨0, fun _ => rfl, hR⟩) hk2))); have hn2 := heap_new w2 (.cells #[.pointer none] 145); clear hrd hb hbl hbl2 hR hk2)
  | refine wpList_buildRun8 rfl 145 #[(0, .tmp 11)] rfl #[(0, .pointer (some ⟨b, 0, none⟩))] (by simp [Act.eval]) _ (hb0 _ _) ?_
  | refine wpList_store_rowTo rfl 145 (.tmp 5) (.tmp 12) rfl rfl w2.heap.size #[.pointer (some ⟨b, 0, none⟩)] rfl rfl 145 #[.pointer none] hn2 Tryz.infoStrict rfl rfl ?_)
 have hX := Sx.new w2 b
 have hk3 := ka w2 (.cells (stC b).toArray 145)
 obtain ⟨G, hG⟩ := nm (w2.heap.size)
 have hGb : b < G := by rw [<-hG]; exact H2.out.2.2.1.lt
 have hEG : E < G := by
  have h1 := H2.out.2.2.2.size
  have h2 := (gs hE).1
  omega
 rw [hG] at hX ⊢
 have HGN := hide (show G = w2.heap.size from hG.symm)
 clear hG hn2
 generalize w2.alloc (.cells (stC b).toArray 145) = w3 at hX hk3 ⊢
 have HR3 := hide (H2.out.2.2.1.later hk3)
 have HE3 : Hid (w3.heap[E]? = some (.cells #[.pointer none] 145 (0, 0))) := by
  have h2 := (gs hE).1
  show _ = _
  rw [hk3.block E (Nat.lt_of_lt_of_le h2 H2.out.2.2.2.size) (by simp), H2.out.2.2.2.block E h2 (by simp)]
  exact hE
 have HX := hide hX
 have cb := hX.cell
 have HK3 := hide ((HK.out.tr H2.out.2.2.2).tr hk3)
 have HNB : Hid (G ∉ [b]) := by show G ∉ [b]; simp; omega
 have HBW : Hid (w.heap.size <= b ∧ (∀ a, ao' = some a -> w.heap.size <= a.block) ∧ E ≠ b ∧ ∀ a, ao' = some a -> a.block ≠ E) := by
  have h1 := HK.out.size
  have h2 := H2.out.1
  have h3 := (gs hE).1
  exact ⟨by omega, fun a ha => Nat.le_trans h1 (H2.out.2.1 a ha), by omega, fun a ha => by have := H2.out.2.1 a ha; omega⟩
 have HEG := hide hEG
 clear hX hk3 H2 HK hE hEG hGb
 obtain ⟨v, hv⟩ := nm (mk xs)
 have HV := hide hv
 obtain ⟨q, hq0⟩ := nm ((v == mark))
 have HQ := hide hq0
 clear hv
 have k0 : Kept [] w3 (World.drew w3) := (Kept.refl [] w3).drew
 refine wp_region_held_drew (S := fun w' => Kept [b] w3 w') (by kernel_rfl) ((Kept.refl [b] w3).drew) (fun h0 => ?_)
 generalize World.drew w3 = v0 at h0 k0 ⊢
 refine t4 0 (stV b) rfl (yieldsIf_load_mid (by rfl) _ _ rfl G 0 rfl (stC b) _ (fun W h => (HX.out.kept h HNB.out).range) Tryz.underlying145 rfl Tryz.infoStrict) h0 ?_
 simp only [zz]
 refine t1 1 (.pointer (some ⟨G, 0, none⟩)) h0 ?_
 simp only [zz]
 refine t2 2 (.pointer (some ⟨b, 0, none⟩)) rfl h0 ?_ (fun w hSw => by have c0 := Kept.cellOf hSw cb HNB.out; go_simp)
 simp only [zz]
 refine t1 4 (.int .i64 mark) h0 ?_
 simp only [zz]
 refine rd 3 fun K hK => ?_
 go_simp
 refine (rfixed_st (HR3.out.later k0) 1).mono ?_
 rintro e v1 ⟨rfl, hk5, hr5⟩
 have hvv : (stFixed xs ⟨0, 0, 0⟩ 1).1 = v := HV.out
 rw [hvv]
 have HR5 := hide hr5
 clear hr5 hvv
 refine hK.out _ _ (h0.tr hk5) (fun h1 => ?_)
 clear hK K
 try simp only [zz]
 clear hk5 h0 k0
 refine t1 5 (.bool q) h1 ?_
 simp only [zz]
 have hqt : q = true := by rw [<-HQ.out]; simp only [beq_iff_eq]; rw [<-HV.out]; exact HKK.out
 subst hqt
 refine rd 6 fun K hK => ?_
 go_simp
 refine (must_yes b v1).mono ?_
 rintro e v2 ⟨rfl, hq⟩
 have HR6 := hide (HR5.out.later hq)
 refine hK.out _ _ (h1.tr hq) (fun h2 => ?_)
 clear hK K
 try simp only [zz]
 refine qd ?_
 clear hq h1 hq0 HR5
 have hrg := (HX.out.kept h2 HNB.out).range
 have hE2 : v2.heap[E]? = some (.cells #[.pointer none] 145 (0, 0)) := (h2.block E (gs HE3.out).1 (by have := HBW.out.2.2.1; simp; omega)).trans HE3.out
 have HK6 := hide (HK3.out.trans h2 (fun i hi hl => by simp only [List.mem_singleton] at hi; have := HBW.out.1; omega))
 clear h2 cb HX
 have cE : v2.cell? ⟨E, 0, none⟩ = some (.pointer none) := by rw [cell_of_row _ _ _ _ _ _ hE2]; rfl
 have fE : v2.frozen? ⟨E, 0, none⟩ = false := frozen_of_row _ _ _ _ _ hE2
 go_wp2_with (refine wpList_load_mid rfl 145 (.tmp 5) rfl G 0 rfl (stC b) _ hrg Tryz.underlying145 rfl Tryz.infoStrict ?_)
 have hkE : Kept [E] v2 (v2.setCell ⟨E, 0, none⟩ (.pointer (some ⟨b, 0, none⟩))) := (Kept.refl [E] v2).setCell (by simp) _
 have hrE : (v2.setCell ⟨E, 0, none⟩ (.pointer (some ⟨b, 0, none⟩))).heap[E]? = some (.cells (stC b).toArray 145 (0, 0)) := by rw [heap_setCell_same v2 _ 0 _ _ _ hE2]; rfl
 have hF1 : RdS (v2.setCell ⟨E, 0, none⟩ (.pointer (some ⟨b, 0, none⟩))) b ao' cap' xs (s1 xs) := HR6.out.kept hkE (by have := HBW.out.2.2.1; simp; omega) (fun hx a ha => by
  have h4 := HBW.out.2.2.2 a ha
  simpa using h4)
 have hF2 : Kept [] w (v2.setCell ⟨E, 0, none⟩ (.pointer (some ⟨b, 0, none⟩))) := HK6.out.trans hkE (fun i hi hl => by simp only [List.mem_singleton] at hi; have := HE0.out; omega)
 exact ret_row rfl rfl E 145 (stC b).toArray (0, 0) _ rfl hrE Tryz.underlying145 rfl Tryz.infoStrict ⟨b, ao', cap', rfl, HBW.out.1, HBW.out.2.1, hF1, hF2⟩
end

section
open Dlt
theorem SigAt.fr {w : World} {g : Nat} {s : Sig} {v : Value} (h : SigAt w g s v) (i : Nat) : w.frozen? ⟨g, i, none⟩ = false := frozen_of_row _ _ _ _ _ h.row
theorem SigAt.setW {w : World} {g : Nat} {s : Sig} {v : Value} (h : SigAt w g s v) (x : Int) : SigAt (w.setCell ⟨g, 0, none⟩ (.int .i64 x)) g { s with width := x } v := ⟨by rw [heap_setCell_same w _ 0 _ _ _ h.row]; rfl⟩
theorem SigAt.setZ {w : World} {g : Nat} {s : Sig} {v : Value} (h : SigAt w g s v) (x : Int) : SigAt (w.setCell ⟨g, 1, none⟩ (.int .i64 x)) g { s with size := x } v := ⟨by rw [heap_setCell_same w _ 1 _ _ _ h.row]; rfl⟩
theorem SigAt.setV {w : World} {g : Nat} {s : Sig} {v : Value} (h : SigAt w g s v) (u : Value) : SigAt (w.setCell ⟨g, 35, none⟩ u) g s u := by
 refine ⟨?_⟩
 rw [heap_setCell_same w _ 35 _ _ _ h.row]
 congr 2
 apply Array.ext'
 simp only [Array.toList_setIfInBounds, List.toList_toArray]
 unfold Sig.cells
 rw [List.set_cons_succ, List.set_cons_succ, List.set_cons_succ, List.set_append_right _ _ (by rw [bys_length, s.hb]; exact Nat.le_refl _), bys_length, s.hb]
 rfl
theorem SigAt.setB {w : World} {g : Nat} {s : Sig} {v : Value} (h : SigAt w g s v) (id : List UInt8) (hl : id.length = 32) : SigAt (w.setCells g 3 (bys id)) g { s with base := id, hb := hl } v := by
 refine ⟨?_⟩
 rw [setCells_row _ _ _ _ _ _ h.row (by rw [bys_length, hl, s.len]; omega), setRow_heap _ _ _ _ _ _ h.row, bys_length, hl]
 congr 3
 unfold Sig.cells
 show [.int .i64 s.width, .int .i64 s.size, .int .i64 s.length] ++ (bys id ++ (bys s.base ++ [v]).drop 32) = _
 rw [List.drop_append, List.drop_of_length_le (by rw [bys_length, s.hb]; exact Nat.le_refl _), bys_length, s.hb]
 rfl
def hlf (x : Int) (h : (Lit.int .i64 x).wf = true) : Wk := ⟨x, List.replicate 32 0, by simp, h⟩
structure Fih (w wr : World) (gB c : Nat) (L : List Wk) (e : Wk) : Prop where
 row : wr.heap[gB]? = some (.cells (wrows L ++ (e.cells ++ wrows (List.replicate (c - (L.length + 1)) wk0))).toArray 62 (0, 0))
 ge : w.heap.size <= gB
theorem Fih.kept {l : List Nat} {w w1 w2 : World} {gB c : Nat} {L : List Wk} {e : Wk} (h : Fih w w1 gB c L e) (hk : Kept l w1 w2) (hn : gB ∉ l) : Fih w w2 gB c L e := ⟨(hk.block gB (gs h.row).1 hn).trans h.row, h.ge⟩
theorem Fil.open {w w1 : World} {gB c : Nat} {L : List Wk} (h : Fil w w1 gB c L) (hl : L.length < c) : Fih w w1 gB c L wk0 := by
 refine ⟨?_, h.ge⟩
 rw [h.row]
 have e1 : c - L.length = (c - (L.length + 1)) + 1 := by omega
 rw [e1, List.replicate_succ, show L ++ wk0 :: List.replicate (c - (L.length + 1)) wk0 = L ++ ([wk0] ++ List.replicate (c - (L.length + 1)) wk0) from rfl, wrows_app, wrows_app]
 simp [wrows]
theorem Fih.cell {w w1 : World} {gB c : Nat} {L : List Wk} {e : Wk} (h : Fih w w1 gB c L e) : w1.cell? ⟨gB, L.length * 33, none⟩ = some (.int .i64 e.sum) ∧ w1.frozen? ⟨gB, L.length * 33, none⟩ = false ∧ w1.there gB (L.length * 33 + 1) 32 := by
 refine ⟨?_, frozen_of_row _ _ _ _ _ h.row, there_row h.row _ _ ?_⟩
 ·rw [cell_of_row _ _ _ _ _ _ h.row, List.getElem?_toArray, List.getElem?_append_right (by rw [wrows_len]; exact Nat.le_refl _), wrows_len, Nat.sub_self]
  rfl
 ·rw [List.size_toArray, List.length_append, List.length_append, wrows_len, e.len]; omega
theorem Fih.setS {w w1 : World} {gB c : Nat} {L : List Wk} {e : Wk} (h : Fih w w1 gB c L e) (x : Int) (hx : (Lit.int .i64 x).wf = true) : Fih w (w1.setCell ⟨gB, L.length * 33, none⟩ (.int .i64 x)) gB c L ⟨x, e.id, e.hid, hx⟩ := by
 refine ⟨?_, h.ge⟩
 rw [heap_setCell_same w1 _ _ _ _ _ h.row]
 congr 2
 apply Array.ext'
 simp only [Array.toList_setIfInBounds, List.toList_toArray]
 rw [List.set_append_right _ _ (by rw [wrows_len]; exact Nat.le_refl _), wrows_len, Nat.sub_self]
 rfl
theorem Fih.setI {w w1 : World} {gB c : Nat} {L : List Wk} {e : Wk} (h : Fih w w1 gB c L e) (id : List UInt8) (hl : id.length = 32) : Fih w (w1.setCells gB (L.length * 33 + 1) (bys id)) gB c L ⟨e.sum, id, hl, e.hs⟩ := by
 refine ⟨?_, h.ge⟩
 have hc : e.cells = [.int .i64 e.sum] ++ bys e.id := rfl
 have l1 : (wrows L).length = L.length * 33 := wrows_len L
 have l2 : (bys e.id).length = 32 := by rw [bys_length, e.hid]
 rw [setCells_row _ _ _ _ _ _ h.row (by rw [bys_length, hl, List.length_append, List.length_append, wrows_len, e.len]; omega), setRow_heap _ _ _ _ _ _ h.row, bys_length, hl]
 congr 3
 rw [hc, List.append_assoc, <-List.append_assoc (wrows L)]
 have l3 : (wrows L ++ [Value.int .i64 e.sum]).length = L.length * 33 + 1 := by rw [List.length_append, l1]; rfl
 rw [List.take_append_of_le_length (by omega), List.take_of_length_le (by omega), List.drop_append, List.drop_of_length_le (by omega), List.nil_append, l3, show L.length * 33 + 1 + 32 - (L.length * 33 + 1) = 32 by omega, List.drop_append, List.drop_of_length_le (by omega), List.nil_append, l2, Nat.sub_self, List.drop_zero]
 simp [Wk.cells]
end

end Go.Proofs.YtmklodligplbaabGreat
