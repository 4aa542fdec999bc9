import Derived.Test.YtmklodligplbaaaGreatD8cm
open Go.RowKit
set_option linter.unusedVariables false
set_option linter.unusedSimpArgs false
set_option maxRecDepth 100000
set_option maxHeartbeats 51200000
namespace Go.Proofs.YtmklodligplbaaaGreat
open Dlt
theorem width_yes {w : World} {b : Nat} {ao : Option Addr} {cap : Nat} {xs : List UInt8} {s : Rs} (h : RdS w b ao cap xs s) (hw : Dlt.isW (stNumber xs s).1 = true) :
  Calls Tryz.prog 49 #[stV b] w fun e w' => e = .returned (.int .i64 (stNumber xs s).1) ∧ RdS w' b ao cap xs (stNumber xs s).2 ∧ Kept [b] w w' := by
 have hK := ka w (.cells (stC b).toArray 88)
 have hnu := number_yes 1 32 (h.later hK) hw
 have hrg := (Sx.new w b).range
 clear hw h
 go_enter Tryz.func49, Tryz.ntmps49
 go_wp2_with (first
  | refine wpList_load_mid rfl 88 (.tmp 1) rfl w.heap.size 0 rfl (stC b) _ hrg Tryz.underlying88 rfl Tryz.infoStrict ?_
  | (go_at_call 81; refine hnu.mono ?_; rintro r w2 ⟨rfl, hr2, hk2⟩; have H2 := hide (ai hr2 hk2); clear hnu hr2 hk2))
 go_ret
 exact ⟨rfl, H2.out.1, (hK.mono (by simp)).tr H2.out.2⟩
theorem width_no {w : World} {b : Nat} {ao : Option Addr} {cap : Nat} {xs : List UInt8} {s : Rs} (h : RdS w b ao cap xs s) (hw : Dlt.isW (stNumber xs s).1 = false) :
  Calls Tryz.prog 49 #[stV b] w fun e w' => e = gaveUp8 ∧ Kept [b] w w' := by
 have hK := ka w (.cells (stC b).toArray 88)
 have hnu := number_no 1 32 (h.later hK) hw
 have hrg := (Sx.new w b).range
 clear hw h
 go_enter Tryz.func49, Tryz.ntmps49
 go_wp2_with (first
  | refine wpList_load_mid rfl 88 (.tmp 1) rfl w.heap.size 0 rfl (stC b) _ hrg Tryz.underlying88 rfl Tryz.infoStrict ?_
  | (go_at_call 81; refine hnu.mono ?_; rintro r w2 ⟨rfl, hk2⟩; have H2 := hide hk2; clear hnu hk2))
 exact ⟨rfl, rfl, (hK.mono (by simp)).tr H2.out⟩
theorem size_yes {w : World} {b : Nat} {ao : Option Addr} {cap : Nat} {xs : List UInt8} {s : Rs} (h : RdS w b ao cap xs s) (hw : Dlt.isZ (stNumber xs s).1 = true) :
  Calls Tryz.prog 50 #[stV b] w fun e w' => e = .returned (.int .i64 (stNumber xs s).1) ∧ RdS w' b ao cap xs (stNumber xs s).2 ∧ Kept [b] w w' := by
 have hK := ka w (.cells (stC b).toArray 88)
 have hnu := number_yes 16 4096 (h.later hK) hw
 have hrg := (Sx.new w b).range
 clear hw h
 go_enter Tryz.func50, Tryz.ntmps50
 go_wp2_with (first
  | refine wpList_load_mid rfl 88 (.tmp 1) rfl w.heap.size 0 rfl (stC b) _ hrg Tryz.underlying88 rfl Tryz.infoStrict ?_
  | (go_at_call 81; refine hnu.mono ?_; rintro r w2 ⟨rfl, hr2, hk2⟩; have H2 := hide (ai hr2 hk2); clear hnu hr2 hk2))
 go_ret
 exact ⟨rfl, H2.out.1, (hK.mono (by simp)).tr H2.out.2⟩
theorem size_no {w : World} {b : Nat} {ao : Option Addr} {cap : Nat} {xs : List UInt8} {s : Rs} (h : RdS w b ao cap xs s) (hw : Dlt.isZ (stNumber xs s).1 = false) :
  Calls Tryz.prog 50 #[stV b] w fun e w' => e = gaveUp8 ∧ Kept [b] w w' := by
 have hK := ka w (.cells (stC b).toArray 88)
 have hnu := number_no 16 4096 (h.later hK) hw
 have hrg := (Sx.new w b).range
 clear hw h
 go_enter Tryz.func50, Tryz.ntmps50
 go_wp2_with (first
  | refine wpList_load_mid rfl 88 (.tmp 1) rfl w.heap.size 0 rfl (stC b) _ hrg Tryz.underlying88 rfl Tryz.infoStrict ?_
  | (go_at_call 81; refine hnu.mono ?_; rintro r w2 ⟨rfl, hk2⟩; have H2 := hide hk2; clear hnu hk2))
 exact ⟨rfl, rfl, (hK.mono (by simp)).tr H2.out⟩
theorem length_yes {w : World} {b : Nat} {ao : Option Addr} {cap : Nat} {xs : List UInt8} {s : Rs} (h : RdS w b ao cap xs s) (hw : Dlt.within (stNumber xs s).1 0 131072 = true) :
  Calls Tryz.prog 51 #[stV b] w fun e w' => e = .returned (.int .i64 (stNumber xs s).1) ∧ RdS w' b ao cap xs (stNumber xs s).2 ∧ Kept [b] w w' := by
 have hK := ka w (.cells (stC b).toArray 88)
 have hnu := number_yes 0 131072 (h.later hK) hw
 have hrg := (Sx.new w b).range
 clear hw h
 go_enter Tryz.func51, Tryz.ntmps51
 go_wp2_with (first
  | refine wpList_load_mid rfl 88 (.tmp 1) rfl w.heap.size 0 rfl (stC b) _ hrg Tryz.underlying88 rfl Tryz.infoStrict ?_
  | (go_at_call 81; refine hnu.mono ?_; rintro r w2 ⟨rfl, hr2, hk2⟩; have H2 := hide (ai hr2 hk2); clear hnu hr2 hk2))
 go_ret
 exact ⟨rfl, H2.out.1, (hK.mono (by simp)).tr H2.out.2⟩
theorem length_no {w : World} {b : Nat} {ao : Option Addr} {cap : Nat} {xs : List UInt8} {s : Rs} (h : RdS w b ao cap xs s) (hw : Dlt.within (stNumber xs s).1 0 131072 = false) :
  Calls Tryz.prog 51 #[stV b] w fun e w' => e = gaveUp8 ∧ Kept [b] w w' := by
 have hK := ka w (.cells (stC b).toArray 88)
 have hnu := number_no 0 131072 (h.later hK) hw
 have hrg := (Sx.new w b).range
 clear hw h
 go_enter Tryz.func51, Tryz.ntmps51
 go_wp2_with (first
  | refine wpList_load_mid rfl 88 (.tmp 1) rfl w.heap.size 0 rfl (stC b) _ hrg Tryz.underlying88 rfl Tryz.infoStrict ?_
  | (go_at_call 81; refine hnu.mono ?_; rintro r w2 ⟨rfl, hk2⟩; have H2 := hide hk2; clear hnu hk2))
 exact ⟨rfl, rfl, (hK.mono (by simp)).tr H2.out⟩
theorem copy_pad {v : World} {A : Nat} {ao : Option Addr} {ys : List UInt8} (hA : v.heap[A]? = some (.cells zero32 26 (0, 0))) (hs : Sl v ao ys) (hl : ys.length <= 32) (cap : Nat) :
  ∃ v2, (Builtin.copy_ #[22, 22] 3 #[.slice (some ⟨A, 0, none⟩) 32 32, .slice ao ys.length cap]).run Tryz.prog v = .ok (.int .i64 ys.length) v2 ∧ v2.heap[A]? = some (.cells (bys (pad ys)).toArray 26 (0, 0)) ∧ Kept [A] v v2 := by
 by_cases h0 : ys = []
 ·subst h0
  refine ⟨v, run_copy_none v 22 22 3 5 _ ao 32 32 0 cap Tryz.underlying22 Tryz.sizeByte (by simp), ?_, Kept.refl _ _⟩
  rw [hA]; rfl
 ·obtain ⟨g5, o5, rfl, hg5, hc5⟩ := hs.open h0
  have hcr := run_copy_row (P := Tryz.prog) v 22 22 3 5 A 0 32 32 ⟨g5, o5, none⟩ ys.length cap _ _ (bys ys) Tryz.underlying22 Tryz.sizeByte hA (by rw [bys_length]; exact (Nat.min_eq_left hl).symm) (fun j u hv => by
   obtain ⟨hj, rfl⟩ := bys_get hv
   rw [Addr.add_mid]; exact hc5 j hj) (by rw [bys_length]; show _ <= 32; omega) (bys_oneCell ys)
  rw [bys_length] at hcr
  refine ⟨_, hcr, ?_, kept_row v _ _⟩
  rw [setRow_heap _ _ _ _ _ _ hA]
  refine congrArg (fun q : List Value => some (Obj.cells q.toArray 26 (0, 0))) ?_
  rw [List.take_zero, List.nil_append, Nat.zero_add]
  unfold pad
  rw [bys_append, List.take_of_length_le hl]
  congr 1
  show (bys (List.replicate 32 0)).drop ys.length = _
  rw [bys, bys, List.map_replicate, List.map_replicate, List.drop_replicate]
theorem Tryz.slice32g (W : World) (b : Nat) :
  (Instr.sliceAt 26 (.pointer (some ⟨b, 0, none⟩)) none none none).run Tryz.prog W = .ok (.slice (some ⟨b, 0, none⟩) 32 32) W := by
 have ha : Tryz.prog.arrayLen 26 = 32 := by kernel_rfl
 have hz : (sizeOf (Tryz.prog.elem 26)).run Tryz.prog W = .ok 1 W := by kernel_rfl
 have h := run_sliceAt_array_all (P := Tryz.prog) W 26 ⟨b, 0, none⟩ (by kernel_rfl)
 rw [h, hz, ha]
 simp [slicedAt, Addr.add_mid]
theorem id_ok {w : World} {b : Nat} {ao : Option Addr} {cap : Nat} {xs : List UInt8} {s : Rs} (h : RdS w b ao cap xs s) (n : Nat) (hn : n <= 32) :
  Calls Tryz.prog 53 #[stV b, .int .i64 n] w fun e w' => e = .returned (.agg (bys (pad (stRaw xs s n).1)).toArray) ∧ RdS w' b ao cap xs (stRaw xs s n).2 ∧ Kept [b] w w' := by
 have hz := Tryz.zeroID
 obtain ⟨w1, hw1⟩ := nm (((w.alloc (.cells (stC b).toArray 88)).alloc (.cells zero32 26)).alloc (.cells zero32 26))
 have k1 := ka w (.cells (stC b).toArray 88)
 have k2 : Kept [] (w.alloc (.cells (stC b).toArray 88)) ((w.alloc (.cells (stC b).toArray 88)).alloc (.cells zero32 26)) := (Kept.refl [] _).alloc _
 have k3 : Kept [] ((w.alloc (.cells (stC b).toArray 88)).alloc (.cells zero32 26)) w1 := by rw [<-hw1]; exact (Kept.refl [] _).alloc _
 have z1 : (w.alloc (.cells (stC b).toArray 88)).heap.size = w.heap.size + 1 := by simp
 have z2 : ((w.alloc (.cells (stC b).toArray 88)).alloc (.cells zero32 26)).heap.size = w.heap.size + 1 + 1 := by simp
 have z3 : w1.heap.size = w.heap.size + 1 + 1 + 1 := by rw [<-hw1]; simp
 have hX : Sx w1 w.heap.size b := ((Sx.new w b).kept k2 (by simp)).kept k3 (by simp)
 have hE : w1.heap[w.heap.size + 1]? = some (.cells zero32 26 (0, 0)) := by
  rw [k3.block _ (by omega) (by simp), <-z1]; exact heap_new _ _
 have hA : w1.heap[w.heap.size + 1 + 1]? = some (.cells zero32 26 (0, 0)) := by
  rw [<-hw1, <-z2]; exact heap_new _ _
 have hkk : Kept [] w w1 := (k1.tr k2).tr k3
 have HR := hide (h.later hkk)
 have hlt := h.lt
 have HBL : Hid (xs ≠ [] -> ∀ a, ao = some a -> a.block < w.heap.size) := fun hx a ha => h.blk hx a ha
 have HLE : Hid ((stRaw xs s n).1.length <= 32) := Nat.le_trans (raw_len xs s n) hn
 have sl32 := fun W => Tryz.slice32g W (w.heap.size + 1 + 1)
 clear k1 k2 k3 z1 z2 h
 go_enter Tryz.func53, Tryz.ntmps53
 go_upto_region 2 with (fail)
 clear hw1 hz
 obtain ⟨G, hG⟩ := nm (w.heap.size)
 obtain ⟨E, hE0⟩ := nm (G + 1)
 obtain ⟨A, hA0⟩ := nm (E + 1)
 rw [hG] at hX hE hA sl32 z3 hlt
 simp only [hG]
 rw [hE0] at hE hA sl32 z3 ⊢
 rw [hA0] at hA sl32 z3 ⊢
 have HGE := hide (ai hG (ai hE0 hA0))
 have HAB : Hid (A ≠ b) := by show A ≠ b; omega
 have HEB : Hid (E ≠ b ∧ E ≠ A) := by show E ≠ b ∧ E ≠ A; omega
 have HNB : Hid (G ∉ [b, A]) := by show G ∉ [b, A]; simp; omega
 have HAL : Hid (A < w1.heap.size) := by show A < _; omega
 clear hG hE0 hA0 z3 hlt
 have HX := hide hX
 have cb := hX.cell
 clear hX
 have K0 : Kept [] w1 (World.drew w1) := (Kept.refl [] w1).drew
 have K0x : Kept [b] w1 (World.drew w1) := (Kept.refl [b] w1).drew
 refine wp_region_held_drew (S := fun w' => Kept [b, A] w1 w') (by kernel_rfl) ((Kept.refl [b, A] w1).drew) (fun h0 => ?_)
 generalize World.drew w1 = v0 at h0 K0 K0x ⊢
 refine t2 0 (.slice (some ⟨A, 0, none⟩) 32 32) rfl h0 ?_ (fun w hSw => by have c0 := sl32 w; go_simp)
 try simp only [zz]
 refine t1 1 (.pointer (some ⟨G, 0, none⟩)) h0 ?_
 try simp only [zz]
 refine t2 2 (.pointer (some ⟨b, 0, none⟩)) rfl h0 ?_ (fun w hSw => by have c0 := Kept.cellOf hSw cb HNB.out; go_simp)
 try simp only [zz]
 refine t1 3 (.int .i64 n) h0 ?_
 try simp only [zz]
 refine rd 4 fun K hK => ?_
 go_simp
 refine (raw_st (HR.out.later K0) n).mono ?_
 rintro e v1 ⟨⟨ao5, cap5, rfl, hfr5⟩, hk5, hr5⟩
 have K1 := K0x.tr hk5
 have hA5 : v1.heap[A]? = some (.cells zero32 26 (0, 0)) := (hk5.block A (Nat.lt_of_lt_of_le HAL.out K0.size) (by simpa using HAB.out)).trans ((K0.block A HAL.out (by simp)).trans hA)
 refine hK.out _ _ (h0.tr hk5) (fun h1 => ?_)
 clear hK K
 try simp only [zz]
 clear hk5 h0 K0 K0x
 obtain ⟨v2, hrun, hA6, hk6⟩ := copy_pad hA5 hfr5.1 (HLE.out) cap5
 refine rd 5 fun K hK => ?_
 refine wp_copy_run8 _ _ _ 22 22 rfl _ _ rfl rfl hrun ?_
 refine hK.out _ _ (h1.tr hk6) (fun h2 => ?_)
 clear hK K hrun h1 h2
 try simp only [zz]
 refine dn ?_
 have hE2 : v2.heap[E]? = some (.cells zero32 26 (0, 0)) := by
  rw [hk6.block E (Nat.lt_of_lt_of_le (gs hE).1 K1.size) (by have := HEB.out; simp; omega), K1.block E (gs hE).1 (by have := HEB.out; simp; omega)]
  exact hE
 have hrA := row_rangeK hA6
 have hpl := pad_len (stRaw xs s n).1
 have HKF : Hid (Kept [b] w v2 ∧ RdS v2 b ao cap xs (stRaw xs s n).2) := by
  refine ⟨((hkk.mono (by simp)).tr K1).trans hk6 (fun i hi hl => ?_), hr5.kept hk6 (by have := HAB.out; simp; omega) (fun hx a ha => ?_)⟩
  ·simp only [List.mem_singleton] at hi
   obtain ⟨h1, h2, h3⟩ := HGE.out
   omega
  ·have h4 := HBL.out hx a ha
   obtain ⟨h1, h2, h3⟩ := HGE.out
   simp
   omega
 obtain ⟨I, hI⟩ := nm (pad (stRaw xs s n).1)
 rw [hI] at hA6 hrA hpl
 have HI := hide hI
 clear hI
 have hil := idlen hpl
 have hia : (Tryz.prog.info? 26).map (·.size) = some (bys I).toArray.size := by rw [List.size_toArray]; exact hil
 have hzs : zero32.size = (bys I).toArray.size := by show 32 = _; rw [List.size_toArray, bys_length, hpl]
 have hal := bys_all I
 clear hA hE HX cb hr5 hfr5 K1 hk6 sl32
 go_wp2_with (first
  | refine wpList_load_mid rfl 26 (.tmp 5) rfl A 0 rfl (bys I) _ hrA Tryz.underlying26 rfl hil ?_
  | refine wpList_store_rowTo rfl 26 (.tmp 4) (.tmp 12) rfl rfl E (bys I).toArray rfl rfl 26 zero32 hE2 hia hzs hal ?_)
 have hkE := kept_row v2 E (bys I).toArray
 have hF1 : RdS (v2.setRow E (bys I).toArray) b ao cap xs (stRaw xs s n).2 := HKF.out.2.kept hkE (by have := HEB.out; simp; omega) (fun hx a ha => by
  have h4 := HBL.out hx a ha
  obtain ⟨h1, h2, h3⟩ := HGE.out
  simp
  omega)
 have hF2 : Kept [b] w (v2.setRow E (bys I).toArray) := HKF.out.1.trans hkE (fun i hi hl => by
  simp only [List.mem_singleton] at hi
  obtain ⟨h1, h2, h3⟩ := HGE.out
  omega)
 exact ret_row rfl rfl E 26 (bys I).toArray (0, 0) _ rfl (setRow_heap _ _ _ _ _ _ hE2) Tryz.underlying26 rfl hia ⟨by rw [HI.out], hF1, hF2⟩
theorem end_left {w : World} {b : Nat} {ao : Option Addr} {cap : Nat} {xs : List UInt8} {s : Rs} (h : RdS w b ao cap xs s) (dao : Option Addr) (n dcap : Nat) (hn : xs.length = n) (hc : n <= dcap) (hm : n <= 100000000000) (hs : Sl w dao xs) (hfar : xs ≠ [] -> ∀ a, dao = some a -> a.block ≠ b) (hL : stLeft xs s ≠ 4) :
  Calls Tryz.prog 55 #[stV b, .slice dao n dcap] w fun e w' => e = gaveUp8 ∧ Kept [b] w w' := by
 have hK := ka w (.cells (stC b).toArray 88)
 have hX := Sx.new w b
 have HR := hide (h.later hK)
 have hlt := h.lt
 have HNB : Hid (w.heap.size ∉ [b]) := by show _ ∉ [b]; simp; omega
 have HN0 : Hid (w.heap.size ∉ ([] : List Nat)) := by show _ ∉ _; simp
 have HS := hide (hs.kept hK (by simp))
 have HD := hide (ai hn (ai hc (ai hm hfar)))
 have HK := hide hK
 clear hn hc hm hs hfar h hlt
 obtain ⟨G, hG⟩ := nm (w.heap.size)
 rw [hG] at hX HNB HN0
 have HX := hide hX
 have cb := hX.cell
 go_enter Tryz.func55, Tryz.ntmps55
 go_upto_region 1 with (fail)
 clear hG hX hK
 generalize w.alloc (.cells (stC b).toArray 88) = w1 at *
 obtain ⟨lf, hlf⟩ := nm (stLeft xs s)
 obtain ⟨q, hq0⟩ := nm ((lf == 4))
 have HLF := hide (ai hlf hq0)
 clear hlf
 refine th w1 fun h0 => ?_
 generalize World.drew w1 = v0 at h0  ⊢
 refine t4 0 (stV b) rfl (yieldsIf_load_mid (by rfl) _ _ rfl G 0 rfl (stC b) _ (fun W h => (HX.out.kept h HN0.out).range) Tryz.underlying88 rfl Tryz.infoStrict) h0 ?_
 try simp only [zz]
 refine t1 1 (.pointer (some ⟨G, 0, none⟩)) h0 ?_
 try simp only [zz]
 refine t2 2 (.pointer (some ⟨b, 0, none⟩)) rfl h0 ?_ (fun w hSw => by have c0 := Kept.cellOf hSw cb HN0.out; go_simp)
 try simp only [zz]
 refine rd 3 fun K hK => ?_
 go_simp
 refine (left_st (HR.out.later h0)).mono ?_
 rintro e v1 ⟨rfl, m, hq⟩
 have hq' : Kept [] v0 v1 := by rw [hq]; exact (Kept.refl [] v0).drewN m
 clear hq
 rw [HLF.out.1]
 refine hK.out _ _ (h0.trans hq' (by simp)) (fun h1 => ?_)
 clear hK K
 try simp only [zz]
 clear hq' h0
 refine t1 4 (.bool q) h1 ?_
 try simp only [zz]
 have hqf : q = false := by rw [<-HLF.out.2]; simp only [beq_eq_false_iff_ne, ne_eq]; rw [<-HLF.out.1]; exact hL
 subst hqf
 refine rd 5 fun K hK => ?_
 go_simp
 refine (must_no b v1).mono ?_
 rintro e v2 ⟨rfl, hq⟩
 exact ⟨rfl, rfl, ((HK.out.mono (by simp)).tr h1).tr hq⟩
theorem end_sum {w : World} {b : Nat} {ao : Option Addr} {cap : Nat} {xs : List UInt8} {s : Rs} (h : RdS w b ao cap xs s) (dao : Option Addr) (n dcap : Nat) (hn : xs.length = n) (hc : n <= dcap) (hm : n <= 100000000000) (hs : Sl w dao xs) (hfar : xs ≠ [] -> ∀ a, dao = some a -> a.block ≠ b) (hL : stLeft xs s = 4) (hF : (stFixed xs s 4).1 ≠ (Pure.sum (xs.take (xs.length - 4)) : Nat)) :
  Calls Tryz.prog 55 #[stV b, .slice dao n dcap] w fun e w' => e = gaveUp8 ∧ Kept [b] w w' := by
 have hK := ka w (.cells (stC b).toArray 88)
 have hX := Sx.new w b
 have HR := hide (h.later hK)
 have hlt := h.lt
 have HNB : Hid (w.heap.size ∉ [b]) := by show _ ∉ [b]; simp; omega
 have HN0 : Hid (w.heap.size ∉ ([] : List Nat)) := by show _ ∉ _; simp
 have HS := hide (hs.kept hK (by simp))
 have HD := hide (ai hn (ai hc (ai hm hfar)))
 have HK := hide hK
 clear hn hc hm hs hfar h hlt
 obtain ⟨G, hG⟩ := nm (w.heap.size)
 rw [hG] at hX HNB HN0
 have HX := hide hX
 have cb := hX.cell
 go_enter Tryz.func55, Tryz.ntmps55
 go_upto_region 1 with (fail)
 clear hG hX hK
 generalize w.alloc (.cells (stC b).toArray 88) = w1 at *
 obtain ⟨lf, hlf⟩ := nm (stLeft xs s)
 obtain ⟨q, hq0⟩ := nm ((lf == 4))
 have HLF := hide (ai hlf hq0)
 clear hlf
 refine th w1 fun h0 => ?_
 generalize World.drew w1 = v0 at h0  ⊢
 refine t4 0 (stV b) rfl (yieldsIf_load_mid (by rfl) _ _ rfl G 0 rfl (stC b) _ (fun W h => (HX.out.kept h HN0.out).range) Tryz.underlying88 rfl Tryz.infoStrict) h0 ?_
 try simp only [zz]
 refine t1 1 (.pointer (some ⟨G, 0, none⟩)) h0 ?_
 try simp only [zz]
 refine t2 2 (.pointer (some ⟨b, 0, none⟩)) rfl h0 ?_ (fun w hSw => by have c0 := Kept.cellOf hSw cb HN0.out; go_simp)
 try simp only [zz]
 refine rd 3 fun K hK => ?_
 go_simp
 refine (left_st (HR.out.later h0)).mono ?_
 rintro e v1 ⟨rfl, m, hq⟩
 have hq' : Kept [] v0 v1 := by rw [hq]; exact (Kept.refl [] v0).drewN m
 clear hq
 rw [HLF.out.1]
 refine hK.out _ _ (h0.trans hq' (by simp)) (fun h1 => ?_)
 clear hK K
 try simp only [zz]
 clear hq' h0
 refine t1 4 (.bool q) h1 ?_
 try simp only [zz]
 have hqt : q = true := by rw [<-HLF.out.2]; simp only [beq_iff_eq]; rw [<-HLF.out.1]; exact hL
 subst hqt
 refine rd 5 fun K hK => ?_
 go_simp
 refine (must_yes b v1).mono ?_
 rintro e v2 ⟨rfl, hq⟩
 refine hK.out _ _ (h1.tr hq) (fun h2 => ?_)
 clear hK K
 try simp only [zz]
 refine dn ?_
 clear hq h1 hq0
 have hn4 : 4 <= n := by
  have h4 := hL
  unfold stLeft at h4
  have := HD.out.1
  split at h4
  ·omega
  ·omega
 go_upto_region 2 with (fail)
 have HR2 := hide (HR.out.later h2)
 have HX2 := hide (HX.out.kept h2 HN0.out)
 have HS2 := hide ((HS.out.kept h2 (by simp)).take (n - 4))
 have HK2 := hide ((HK.out.mono (l2 := [b]) (by simp)).tr h2)
 have cb2 := HX2.out.cell
 clear HX HR HS HK cb h2
 have hcut := fun W => Tryz.cutTo W dao n dcap (n - 4) (by have := HD.out.2.1; omega)
 have hsub : (n : Int) - 4 = ((n - 4 : Nat) : Int) := by omega
 have hnm : n <= 100000000000 := HD.out.2.2.1
 have htl : (xs.take (n - 4)).length = n - 4 := by rw [List.length_take, HD.out.1]; omega
 have hwr : IntKind.i64.wrap ((n - 4 : Nat) : Int) = ((n - 4 : Nat) : Int) := wrap64 (by omega) (by omega)
 have HFR : Hid (xs.take (n - 4) ≠ [] -> ∀ a, dao = some a -> a.block ∉ [b]) := fun hx a ha => by
  have h1 := HD.out.2.2.2 (by rintro rfl; simp at hx) a ha
  simpa using h1
 rw [HD.out.1] at hF
 have HTL := hide htl
 obtain ⟨N4, hN4⟩ := nm (n - 4)
 rw [hN4] at hcut hsub hwr HS2 HFR HTL hF
 generalize xs.take N4 = ys at HS2 HFR HTL hF
 clear hN4 htl
 have HTL2 : Hid (N4 <= 100000000000) := by show _ <= _; omega
 refine wp_region_held_drew (S := fun w' => Kept [b] v2 w') (by kernel_rfl) ((Kept.refl [b] v2).drew) (fun g0 => ?_)
 have gk : Kept [] v2 (World.drew v2) := (Kept.refl [] v2).drew
 generalize World.drew v2 = u0 at g0 gk ⊢
 refine t4 0 (stV b) rfl (yieldsIf_load_mid (by rfl) _ _ rfl G 0 rfl (stC b) _ (fun W h => (HX2.out.kept h HNB.out).range) Tryz.underlying88 rfl Tryz.infoStrict) g0 ?_
 try simp only [zz]
 refine t1 1 (.pointer (some ⟨G, 0, none⟩)) g0 ?_
 try simp only [zz]
 refine t2 2 (.pointer (some ⟨b, 0, none⟩)) rfl g0 ?_ (fun w hSw => by have c0 := Kept.cellOf hSw cb2 HNB.out; go_simp)
 try simp only [zz]
 refine t1 4 (.slice dao n dcap) g0 ?_
 try simp only [zz]
 refine t1 5 (.slice dao n dcap) g0 ?_
 try simp only [zz]
 refine t1 6 (.int .i64 n) g0 ?_
 try simp only [zz]
 refine t1 7 (.int .i64 N4) g0 ?_
 try simp only [zz]
 refine t2 8 (.slice dao N4 dcap) rfl g0 ?_ (fun w hSw => by have c0 := hcut w; go_simp)
 try simp only [zz]
 refine rd 3 fun K hK => ?_
 go_simp
 refine (rfixed_st (HR2.out.later gk) 4).mono ?_
 rintro e u1 ⟨rfl, hk5, hr5⟩
 refine hK.out _ _ (g0.tr hk5) (fun g1 => ?_)
 clear hK K
 try simp only [zz]
 clear gk g0 hk5 hr5
 refine rd 9 fun K hK => ?_
 go_simp
 refine (sum_at (cap := dcap) HTL.out HTL2.out (HS2.out.kept g1 HFR.out)).mono ?_
 rintro e u2 ⟨rfl, hk6⟩
 refine hK.out _ _ (g1.tr hk6) (fun g2 => ?_)
 clear hK K
 try simp only [zz]
 clear g1 hk6
 have hne : ((stFixed xs s 4).1 == (Pure.sum ys : Int)) = false := by simp only [beq_eq_false_iff_ne, ne_eq]; exact hF
 refine t1 10 (.bool false) g2 ?_
 try simp only [zz]
 refine rd 11 fun K hK => ?_
 go_simp
 refine (must_no b u2).mono ?_
 rintro e u3 ⟨rfl, hq⟩
 exact ⟨rfl, rfl, (HK2.out.tr g2).tr hq⟩
theorem end_yes {w : World} {b : Nat} {ao : Option Addr} {cap : Nat} {xs : List UInt8} {s : Rs} (h : RdS w b ao cap xs s) (dao : Option Addr) (n dcap : Nat) (hn : xs.length = n) (hc : n <= dcap) (hm : n <= 100000000000) (hs : Sl w dao xs) (hfar : xs ≠ [] -> ∀ a, dao = some a -> a.block ≠ b) (hL : stLeft xs s = 4) (hF : (stFixed xs s 4).1 = (Pure.sum (xs.take (xs.length - 4)) : Nat)) :
  Calls Tryz.prog 55 #[stV b, .slice dao n dcap] w fun e w' => e = .returned (.tuple #[]) ∧ Kept [b] w w' := by
 have hK := ka w (.cells (stC b).toArray 88)
 have hX := Sx.new w b
 have HR := hide (h.later hK)
 have hlt := h.lt
 have HNB : Hid (w.heap.size ∉ [b]) := by show _ ∉ [b]; simp; omega
 have HN0 : Hid (w.heap.size ∉ ([] : List Nat)) := by show _ ∉ _; simp
 have HS := hide (hs.kept hK (by simp))
 have HD := hide (ai hn (ai hc (ai hm hfar)))
 have HK := hide hK
 clear hn hc hm hs hfar h hlt
 obtain ⟨G, hG⟩ := nm (w.heap.size)
 rw [hG] at hX HNB HN0
 have HX := hide hX
 have cb := hX.cell
 go_enter Tryz.func55, Tryz.ntmps55
 go_upto_region 1 with (fail)
 clear hG hX hK
 generalize w.alloc (.cells (stC b).toArray 88) = w1 at *
 obtain ⟨lf, hlf⟩ := nm (stLeft xs s)
 obtain ⟨q, hq0⟩ := nm ((lf == 4))
 have HLF := hide (ai hlf hq0)
 clear hlf
 refine th w1 fun h0 => ?_
 generalize World.drew w1 = v0 at h0  ⊢
 refine t4 0 (stV b) rfl (yieldsIf_load_mid (by rfl) _ _ rfl G 0 rfl (stC b) _ (fun W h => (HX.out.kept h HN0.out).range) Tryz.underlying88 rfl Tryz.infoStrict) h0 ?_
 try simp only [zz]
 refine t1 1 (.pointer (some ⟨G, 0, none⟩)) h0 ?_
 try simp only [zz]
 refine t2 2 (.pointer (some ⟨b, 0, none⟩)) rfl h0 ?_ (fun w hSw => by have c0 := Kept.cellOf hSw cb HN0.out; go_simp)
 try simp only [zz]
 refine rd 3 fun K hK => ?_
 go_simp
 refine (left_st (HR.out.later h0)).mono ?_
 rintro e v1 ⟨rfl, m, hq⟩
 have hq' : Kept [] v0 v1 := by rw [hq]; exact (Kept.refl [] v0).drewN m
 clear hq
 rw [HLF.out.1]
 refine hK.out _ _ (h0.trans hq' (by simp)) (fun h1 => ?_)
 clear hK K
 try simp only [zz]
 clear hq' h0
 refine t1 4 (.bool q) h1 ?_
 try simp only [zz]
 have hqt : q = true := by rw [<-HLF.out.2]; simp only [beq_iff_eq]; rw [<-HLF.out.1]; exact hL
 subst hqt
 refine rd 5 fun K hK => ?_
 go_simp
 refine (must_yes b v1).mono ?_
 rintro e v2 ⟨rfl, hq⟩
 refine hK.out _ _ (h1.tr hq) (fun h2 => ?_)
 clear hK K
 try simp only [zz]
 refine dn ?_
 clear hq h1 hq0
 have hn4 : 4 <= n := by
  have h4 := hL
  unfold stLeft at h4
  have := HD.out.1
  split at h4
  ·omega
  ·omega
 go_upto_region 2 with (fail)
 have HR2 := hide (HR.out.later h2)
 have HX2 := hide (HX.out.kept h2 HN0.out)
 have HS2 := hide ((HS.out.kept h2 (by simp)).take (n - 4))
 have HK2 := hide ((HK.out.mono (l2 := [b]) (by simp)).tr h2)
 have cb2 := HX2.out.cell
 clear HX HR HS HK cb h2
 have hcut := fun W => Tryz.cutTo W dao n dcap (n - 4) (by have := HD.out.2.1; omega)
 have hsub : (n : Int) - 4 = ((n - 4 : Nat) : Int) := by omega
 have hnm : n <= 100000000000 := HD.out.2.2.1
 have htl : (xs.take (n - 4)).length = n - 4 := by rw [List.length_take, HD.out.1]; omega
 have hwr : IntKind.i64.wrap ((n - 4 : Nat) : Int) = ((n - 4 : Nat) : Int) := wrap64 (by omega) (by omega)
 have HFR : Hid (xs.take (n - 4) ≠ [] -> ∀ a, dao = some a -> a.block ∉ [b]) := fun hx a ha => by
  have h1 := HD.out.2.2.2 (by rintro rfl; simp at hx) a ha
  simpa using h1
 rw [HD.out.1] at hF
 have HTL := hide htl
 obtain ⟨N4, hN4⟩ := nm (n - 4)
 rw [hN4] at hcut hsub hwr HS2 HFR HTL hF
 generalize xs.take N4 = ys at HS2 HFR HTL hF
 clear hN4 htl
 have HTL2 : Hid (N4 <= 100000000000) := by show _ <= _; omega
 refine wp_region_held_drew (S := fun w' => Kept [b] v2 w') (by kernel_rfl) ((Kept.refl [b] v2).drew) (fun g0 => ?_)
 have gk : Kept [] v2 (World.drew v2) := (Kept.refl [] v2).drew
 generalize World.drew v2 = u0 at g0 gk ⊢
 refine t4 0 (stV b) rfl (yieldsIf_load_mid (by rfl) _ _ rfl G 0 rfl (stC b) _ (fun W h => (HX2.out.kept h HNB.out).range) Tryz.underlying88 rfl Tryz.infoStrict) g0 ?_
 try simp only [zz]
 refine t1 1 (.pointer (some ⟨G, 0, none⟩)) g0 ?_
 try simp only [zz]
 refine t2 2 (.pointer (some ⟨b, 0, none⟩)) rfl g0 ?_ (fun w hSw => by have c0 := Kept.cellOf hSw cb2 HNB.out; go_simp)
 try simp only [zz]
 refine t1 4 (.slice dao n dcap) g0 ?_
 try simp only [zz]
 refine t1 5 (.slice dao n dcap) g0 ?_
 try simp only [zz]
 refine t1 6 (.int .i64 n) g0 ?_
 try simp only [zz]
 refine t1 7 (.int .i64 N4) g0 ?_
 try simp only [zz]
 refine t2 8 (.slice dao N4 dcap) rfl g0 ?_ (fun w hSw => by have c0 := hcut w; go_simp)
 try simp only [zz]
 refine rd 3 fun K hK => ?_
 go_simp
 refine (rfixed_st (HR2.out.later gk) 4).mono ?_
 rintro e u1 ⟨rfl, hk5, hr5⟩
 refine hK.out _ _ (g0.tr hk5) (fun g1 => ?_)
 clear hK K
 try simp only [zz]
 clear gk g0 hk5 hr5
 refine rd 9 fun K hK => ?_
 go_simp
 refine (sum_at (cap := dcap) HTL.out HTL2.out (HS2.out.kept g1 HFR.out)).mono ?_
 rintro e u2 ⟨rfl, hk6⟩
 refine hK.out _ _ (g1.tr hk6) (fun g2 => ?_)
 clear hK K
 try simp only [zz]
 clear g1 hk6
 try rw [hF]
 refine t1 10 (.bool true) g2 ?_
 try simp only [zz]
 refine rd 11 fun K hK => ?_
 go_simp
 refine (must_yes b u2).mono ?_
 rintro e u3 ⟨rfl, hq⟩
 refine hK.out _ _ (g2.tr hq) (fun g3 => ?_)
 clear hK K
 try simp only [zz]
 refine dn ?_
 go_end0
 exact ⟨rfl, HK2.out.tr g3⟩
end Go.Proofs.YtmklodligplbaaaGreat
