import Derived.Test.YtmklodligplbaabGreatD8cl
namespace Go.Proofs.YtmklodligplbaabGreat
open Go.RowKit
open Dlt
set_option linter.unusedVariables false
set_option linter.unusedSimpArgs false
set_option maxHeartbeats 800000 in
set_option maxRecDepth 100000 in
theorem width_yes {w : World} {b : Nat} {ao : Option Addr} {cap : Nat} {xs : List UInt8} {s : Rs} (h : RdS w b ao cap xs s) (hw : Dlt.isW (stNumber xs s).1 = true) :
  Calls Tryz.prog 87 #[stV b] w fun e w' => e = .returned (.int .i64 (stNumber xs s).1) ∧ RdS w' b ao cap xs (stNumber xs s).2 ∧ Kept [b] w w' := by
 have hK : Kept [] w (w.alloc (.cells (stC b).toArray 145)) := (Kept.refl [] w).alloc _
 have hnu := number_yes 1 32 (h.later hK) hw
 have hrg := (Sx.new w b).range
 clear hw h
 go_enter Tryz.func87, Tryz.ntmps87
 go_wp2_with (first
  | refine wpList_load_mid rfl 145 (.tmp 1) rfl w.heap.size 0 rfl (stC b) _ hrg Tryz.underlying145 rfl Tryz.infoStrict ?_
  | (go_at_call 90; refine hnu.mono ?_; rintro r w2 ⟨rfl, hr2, hk2⟩; have H2 := hide (And.intro hr2 hk2); clear hnu hr2 hk2))
 go_ret
 exact ⟨rfl, H2.out.1, (hK.mono (by simp)).trans H2.out.2 (by simp)⟩
set_option maxHeartbeats 800000 in
set_option maxRecDepth 100000 in
theorem width_no {w : World} {b : Nat} {ao : Option Addr} {cap : Nat} {xs : List UInt8} {s : Rs} (h : RdS w b ao cap xs s) (hw : Dlt.isW (stNumber xs s).1 = false) :
  Calls Tryz.prog 87 #[stV b] w fun e w' => e = gaveUp8 ∧ Kept [b] w w' := by
 have hK : Kept [] w (w.alloc (.cells (stC b).toArray 145)) := (Kept.refl [] w).alloc _
 have hnu := number_no 1 32 (h.later hK) hw
 have hrg := (Sx.new w b).range
 clear hw h
 go_enter Tryz.func87, Tryz.ntmps87
 go_wp2_with (first
  | refine wpList_load_mid rfl 145 (.tmp 1) rfl w.heap.size 0 rfl (stC b) _ hrg Tryz.underlying145 rfl Tryz.infoStrict ?_
  | (go_at_call 90; refine hnu.mono ?_; rintro r w2 ⟨rfl, hk2⟩; have H2 := hide hk2; clear hnu hk2))
 exact ⟨rfl, rfl, (hK.mono (by simp)).trans H2.out (by simp)⟩
set_option maxHeartbeats 800000 in
set_option maxRecDepth 100000 in
theorem size_yes {w : World} {b : Nat} {ao : Option Addr} {cap : Nat} {xs : List UInt8} {s : Rs} (h : RdS w b ao cap xs s) (hw : Dlt.isZ (stNumber xs s).1 = true) :
  Calls Tryz.prog 88 #[stV b] w fun e w' => e = .returned (.int .i64 (stNumber xs s).1) ∧ RdS w' b ao cap xs (stNumber xs s).2 ∧ Kept [b] w w' := by
 have hK : Kept [] w (w.alloc (.cells (stC b).toArray 145)) := (Kept.refl [] w).alloc _
 have hnu := number_yes 16 4096 (h.later hK) hw
 have hrg := (Sx.new w b).range
 clear hw h
 go_enter Tryz.func88, Tryz.ntmps88
 go_wp2_with (first
  | refine wpList_load_mid rfl 145 (.tmp 1) rfl w.heap.size 0 rfl (stC b) _ hrg Tryz.underlying145 rfl Tryz.infoStrict ?_
  | (go_at_call 90; refine hnu.mono ?_; rintro r w2 ⟨rfl, hr2, hk2⟩; have H2 := hide (And.intro hr2 hk2); clear hnu hr2 hk2))
 go_ret
 exact ⟨rfl, H2.out.1, (hK.mono (by simp)).trans H2.out.2 (by simp)⟩
set_option maxHeartbeats 800000 in
set_option maxRecDepth 100000 in
theorem size_no {w : World} {b : Nat} {ao : Option Addr} {cap : Nat} {xs : List UInt8} {s : Rs} (h : RdS w b ao cap xs s) (hw : Dlt.isZ (stNumber xs s).1 = false) :
  Calls Tryz.prog 88 #[stV b] w fun e w' => e = gaveUp8 ∧ Kept [b] w w' := by
 have hK : Kept [] w (w.alloc (.cells (stC b).toArray 145)) := (Kept.refl [] w).alloc _
 have hnu := number_no 16 4096 (h.later hK) hw
 have hrg := (Sx.new w b).range
 clear hw h
 go_enter Tryz.func88, Tryz.ntmps88
 go_wp2_with (first
  | refine wpList_load_mid rfl 145 (.tmp 1) rfl w.heap.size 0 rfl (stC b) _ hrg Tryz.underlying145 rfl Tryz.infoStrict ?_
  | (go_at_call 90; refine hnu.mono ?_; rintro r w2 ⟨rfl, hk2⟩; have H2 := hide hk2; clear hnu hk2))
 exact ⟨rfl, rfl, (hK.mono (by simp)).trans H2.out (by simp)⟩
set_option maxHeartbeats 800000 in
set_option maxRecDepth 100000 in
theorem length_yes {w : World} {b : Nat} {ao : Option Addr} {cap : Nat} {xs : List UInt8} {s : Rs} (h : RdS w b ao cap xs s) (hw : Dlt.within (stNumber xs s).1 0 131072 = true) :
  Calls Tryz.prog 94 #[stV b] w fun e w' => e = .returned (.int .i64 (stNumber xs s).1) ∧ RdS w' b ao cap xs (stNumber xs s).2 ∧ Kept [b] w w' := by
 have hK : Kept [] w (w.alloc (.cells (stC b).toArray 145)) := (Kept.refl [] w).alloc _
 have hnu := number_yes 0 131072 (h.later hK) hw
 have hrg := (Sx.new w b).range
 clear hw h
 go_enter Tryz.func94, Tryz.ntmps94
 go_wp2_with (first
  | refine wpList_load_mid rfl 145 (.tmp 1) rfl w.heap.size 0 rfl (stC b) _ hrg Tryz.underlying145 rfl Tryz.infoStrict ?_
  | (go_at_call 90; refine hnu.mono ?_; rintro r w2 ⟨rfl, hr2, hk2⟩; have H2 := hide (And.intro hr2 hk2); clear hnu hr2 hk2))
 go_ret
 exact ⟨rfl, H2.out.1, (hK.mono (by simp)).trans H2.out.2 (by simp)⟩
set_option maxHeartbeats 800000 in
set_option maxRecDepth 100000 in
theorem length_no {w : World} {b : Nat} {ao : Option Addr} {cap : Nat} {xs : List UInt8} {s : Rs} (h : RdS w b ao cap xs s) (hw : Dlt.within (stNumber xs s).1 0 131072 = false) :
  Calls Tryz.prog 94 #[stV b] w fun e w' => e = gaveUp8 ∧ Kept [b] w w' := by
 have hK : Kept [] w (w.alloc (.cells (stC b).toArray 145)) := (Kept.refl [] w).alloc _
 have hnu := number_no 0 131072 (h.later hK) hw
 have hrg := (Sx.new w b).range
 clear hw h
 go_enter Tryz.func94, Tryz.ntmps94
 go_wp2_with (first
  | refine wpList_load_mid rfl 145 (.tmp 1) rfl w.heap.size 0 rfl (stC b) _ hrg Tryz.underlying145 rfl Tryz.infoStrict ?_
  | (go_at_call 90; refine hnu.mono ?_; rintro r w2 ⟨rfl, hk2⟩; have H2 := hide hk2; clear hnu hk2))
 exact ⟨rfl, rfl, (hK.mono (by simp)).trans H2.out (by simp)⟩
set_option maxRecDepth 100000 in
theorem copy_pad {v : World} {A : Nat} {ao : Option Addr} {ys : List UInt8} (hA : v.heap[A]? = some (.cells zero32 23 (0, 0))) (hs : Sl v ao ys) (hl : ys.length ≤ 32) (cap : Nat) :
  ∃ v2, (Builtin.copy_ #[27, 27] 3 #[.slice (some ⟨A, 0, none⟩) 32 32, .slice ao ys.length cap]).run Tryz.prog v = .ok (.int .i64 ys.length) v2 ∧ v2.heap[A]? = some (.cells (bys (pad ys)).toArray 23 (0, 0)) ∧ Kept [A] v v2 := by
 by_cases h0 : ys = []
 ·subst h0
  refine ⟨v, run_copy_none v 27 27 3 5 _ ao 32 32 0 cap Tryz.underlying27 Tryz.sizeByte (by simp), ?_, Kept.refl _ _⟩
  rw [hA]; rfl
 ·obtain ⟨g5, o5, rfl, hg5, hc5⟩ := hs.open h0
  have hcr := run_copy_row (P := Tryz.prog) v 27 27 3 5 A 0 32 32 ⟨g5, o5, none⟩ ys.length cap _ _ (bys ys) Tryz.underlying27 Tryz.sizeByte hA (by rw [bys_length]; exact (Nat.min_eq_left hl).symm) (fun j u hv => by
   obtain ⟨hj, rfl⟩ := bys_get hv
   rw [Addr.add_mid]; exact hc5 j hj) (by rw [bys_length]; show _ ≤ 32; omega) (bys_oneCell ys)
  rw [bys_length] at hcr
  refine ⟨_, hcr, ?_, kept_row v _ _⟩
  rw [setRow_heap _ _ _ _ _ _ hA]
  refine congrArg (fun q : List Value => some (Obj.cells q.toArray 23 (0, 0))) ?_
  rw [List.take_zero, List.nil_append, Nat.zero_add]
  unfold pad
  rw [bys_append, List.take_of_length_le hl]
  congr 1
  show (bys (List.replicate 32 0)).drop ys.length = _
  rw [bys, bys, List.map_replicate, List.map_replicate, List.drop_replicate]
theorem Tryz.slice32g (W : World) (b : Nat) :
  (Instr.sliceAt 23 (.pointer (some ⟨b, 0, none⟩)) none none none).run Tryz.prog W = .ok (.slice (some ⟨b, 0, none⟩) 32 32) W := by
 have ha : Tryz.prog.arrayLen 23 = 32 := by kernel_rfl
 have hz : (sizeOf (Tryz.prog.elem 23)).run Tryz.prog W = .ok 1 W := by kernel_rfl
 have h := run_sliceAt_array_all (P := Tryz.prog) W 23 ⟨b, 0, none⟩ (by kernel_rfl)
 rw [h, hz, ha]
 simp [slicedAt, Addr.add_mid]
set_option maxHeartbeats 1600000 in
set_option maxRecDepth 100000 in
theorem id_ok {w : World} {b : Nat} {ao : Option Addr} {cap : Nat} {xs : List UInt8} {s : Rs} (h : RdS w b ao cap xs s) (n : Nat) (hn : n ≤ 32) :
  Calls Tryz.prog 95 #[stV b, .int .i64 n] w fun e w' => e = .returned (.agg (bys (pad (stRaw xs s n).1)).toArray) ∧ RdS w' b ao cap xs (stRaw xs s n).2 ∧ Kept [b] w w' := by
 have hz := Tryz.zeroID
 obtain ⟨w1, hw1⟩ : ∃ w1, ((w.alloc (.cells (stC b).toArray 145)).alloc (.cells zero32 23)).alloc (.cells zero32 23) = w1 := ⟨_, rfl⟩
 have k1 : Kept [] w (w.alloc (.cells (stC b).toArray 145)) := (Kept.refl [] w).alloc _
 have k2 : Kept [] (w.alloc (.cells (stC b).toArray 145)) ((w.alloc (.cells (stC b).toArray 145)).alloc (.cells zero32 23)) := (Kept.refl [] _).alloc _
 have k3 : Kept [] ((w.alloc (.cells (stC b).toArray 145)).alloc (.cells zero32 23)) w1 := by rw [← hw1]; exact (Kept.refl [] _).alloc _
 have z1 : (w.alloc (.cells (stC b).toArray 145)).heap.size = w.heap.size + 1 := by simp
 have z2 : ((w.alloc (.cells (stC b).toArray 145)).alloc (.cells zero32 23)).heap.size = w.heap.size + 1 + 1 := by simp
 have z3 : w1.heap.size = w.heap.size + 1 + 1 + 1 := by rw [← hw1]; simp
 have hX : Sx w1 w.heap.size b := ((Sx.new w b).kept k2 (by simp)).kept k3 (by simp)
 have hE : w1.heap[w.heap.size + 1]? = some (.cells zero32 23 (0, 0)) := by
  rw [k3.block _ (by omega) (by simp), ← z1]; exact heap_new _ _
 have hA : w1.heap[w.heap.size + 1 + 1]? = some (.cells zero32 23 (0, 0)) := by
  rw [← hw1, ← z2]; exact heap_new _ _
 have hkk : Kept [] w w1 := (k1.trans k2 (by simp)).trans k3 (by simp)
 have HR := hide (h.later hkk)
 have hlt := h.lt
 have HBL : Hid (xs ≠ [] → ∀ a, ao = some a → a.block < w.heap.size) := fun hx a ha => h.blk hx a ha
 have HLE : Hid ((stRaw xs s n).1.length ≤ 32) := Nat.le_trans (raw_len xs s n) hn
 have sl32 := fun W => Tryz.slice32g W (w.heap.size + 1 + 1)
 clear k1 k2 k3 z1 z2 h
 go_enter Tryz.func95, Tryz.ntmps95
 go_upto_region 2 with (fail)
 clear hw1 hz
 obtain ⟨G, hG⟩ : ∃ G, w.heap.size = G := ⟨_, rfl⟩
 obtain ⟨E, hE0⟩ : ∃ E, G + 1 = E := ⟨_, rfl⟩
 obtain ⟨A, hA0⟩ : ∃ A, E + 1 = A := ⟨_, rfl⟩
 rw [hG] at hX hE hA sl32 z3 hlt
 simp only [hG]
 rw [hE0] at hE hA sl32 z3 ⊢
 rw [hA0] at hA sl32 z3 ⊢
 have HGE := hide (And.intro hG (And.intro hE0 hA0))
 have HAB : Hid (A ≠ b) := by show A ≠ b; omega
 have HEB : Hid (E ≠ b ∧ E ≠ A) := by show E ≠ b ∧ E ≠ A; omega
 have HNB : Hid (G ∉ [b, A]) := by show G ∉ [b, A]; simp; omega
 have HAL : Hid (A < w1.heap.size) := by show A < _; omega
 clear hG hE0 hA0 z3 hlt
 have HX := hide hX
 have cb := hX.cell
 clear hX
 have K0 : Kept [] w1 (World.drew w1) := (Kept.refl [] w1).drew
 have K0x : Kept [b] w1 (World.drew w1) := (Kept.refl [b] w1).drew
 refine wp_region_held_drew (S := fun w' => Kept [b, A] w1 w') (by kernel_rfl) ((Kept.refl [b, A] w1).drew) (fun h0 => ?_)
 generalize World.drew w1 = v0 at h0 K0 K0x ⊢
 refine wpAnyH_take (i := 0) (v := .slice (some ⟨A, 0, none⟩) 32 32) rfl (by kernel_rfl) (by kernel_rfl) (by kernel_rfl) (fun _ _ _ h => h) (Or.inl ⟨by rfl, fun w hSw => by have c0 := sl32 w; go_simp⟩) h0 ?_
 try simp only [z1, z2, z3, z4, z5, z6, z7, z8]
 refine wpAnyH_take (i := 1) (v := .pointer (some ⟨G, 0, none⟩)) rfl (by kernel_rfl) (by kernel_rfl) (by kernel_rfl) (fun _ _ _ h => h) (Or.inl ⟨by rfl, fun w hSw => by go_simp⟩) h0 ?_
 try simp only [z1, z2, z3, z4, z5, z6, z7, z8]
 refine wpAnyH_take (i := 2) (v := .pointer (some ⟨b, 0, none⟩)) rfl (by kernel_rfl) (by kernel_rfl) (by kernel_rfl) (fun _ _ _ h => h) (Or.inl ⟨by rfl, fun w hSw => by have c0 := Kept.cellOf hSw cb HNB.out; go_simp⟩) h0 ?_
 try simp only [z1, z2, z3, z4, z5, z6, z7, z8]
 refine wpAnyH_take (i := 3) (v := .int .i64 n) rfl (by kernel_rfl) (by kernel_rfl) (by kernel_rfl) (fun _ _ _ h => h) (Or.inl ⟨by rfl, fun w hSw => by go_simp⟩) h0 ?_
 try simp only [z1, z2, z3, z4, z5, z6, z7, z8]
 refine wpAnyH_ready (rs := [4]) (by kernel_rfl) (by simp) (AllReadyH.cons (i := 4) rfl (fun K hK => ?_) AllReadyH.nil)
 rw [if_pos (by rfl)]
 go_simp
 refine (raw_st (HR.out.later K0) n).mono ?_
 rintro e v1 ⟨⟨ao5, cap5, rfl, hfr5⟩, hk5, hr5⟩
 have K1 := K0x.trans hk5 (by simp)
 have hA5 : v1.heap[A]? = some (.cells zero32 23 (0, 0)) := (hk5.block A (Nat.lt_of_lt_of_le HAL.out K0.size) (by simpa using HAB.out)).trans ((K0.block A HAL.out (by simp)).trans hA)
 refine hK.out _ _ (h0.trans hk5 (by simp)) (fun h1 => ?_)
 clear hK K
 try simp only [z1, z2, z3, z4, z5, z6, z7, z8]
 clear hk5 h0 K0 K0x
 obtain ⟨v2, hrun, hA6, hk6⟩ := copy_pad hA5 hfr5.1 (HLE.out) cap5
 refine wpAnyH_ready (rs := [5]) (by kernel_rfl) (by simp) (AllReadyH.cons (i := 5) rfl (fun K hK => ?_) AllReadyH.nil)
 rw [if_pos (by rfl)]
 refine wp_copy_run8 _ _ _ 27 27 rfl _ _ rfl rfl hrun ?_
 refine hK.out _ _ (h1.trans hk6 (by simp)) (fun h2 => ?_)
 clear hK K hrun h1 h2
 try simp only [z1, z2, z3, z4, z5, z6, z7, z8]
 refine wpAnyH_done (by kernel_rfl) ?_ _
 have hE2 : v2.heap[E]? = some (.cells zero32 23 (0, 0)) := by
  rw [hk6.block E (Nat.lt_of_lt_of_le (Array.getElem?_eq_some_iff.1 hE).1 K1.size) (by have := HEB.out; simp; omega), K1.block E (Array.getElem?_eq_some_iff.1 hE).1 (by have := HEB.out; simp; omega)]
  exact hE
 have hrA := row_rangeK hA6
 have hpl := pad_len (stRaw xs s n).1
 have HKF : Hid (Kept [b] w v2 ∧ RdS v2 b ao cap xs (stRaw xs s n).2) := by
  refine ⟨((hkk.mono (by simp)).trans K1 (by simp)).trans hk6 (fun i hi hl => ?_), hr5.kept hk6 (by have := HAB.out; simp; omega) (fun hx a ha => ?_)⟩
  ·simp only [List.mem_singleton] at hi
   obtain ⟨h1, h2, h3⟩ := HGE.out
   omega
  ·have h4 := HBL.out hx a ha
   obtain ⟨h1, h2, h3⟩ := HGE.out
   simp
   omega
 obtain ⟨I, hI⟩ : ∃ I, pad (stRaw xs s n).1 = I := ⟨_, rfl⟩
 rw [hI] at hA6 hrA hpl
 have HI := hide hI
 clear hI
 have hil := idlen hpl
 have hia : (Tryz.prog.info? 23).map (·.size) = some (bys I).toArray.size := by rw [List.size_toArray]; exact hil
 have hzs : zero32.size = (bys I).toArray.size := by show 32 = _; rw [List.size_toArray, bys_length, hpl]
 have hal := bys_all I
 clear hA hE HX cb hr5 hfr5 K1 hk6 sl32
 go_wp2_with (first
  | refine wpList_load_mid rfl 23 (.tmp 5) rfl A 0 rfl (bys I) _ hrA Tryz.underlying23 rfl hil ?_
  | refine wpList_store_rowTo rfl 23 (.tmp 4) (.tmp 12) rfl rfl E (bys I).toArray rfl rfl 23 zero32 hE2 hia hzs hal ?_)
 have hkE := kept_row v2 E (bys I).toArray
 have hF1 : RdS (v2.setRow E (bys I).toArray) b ao cap xs (stRaw xs s n).2 := HKF.out.2.kept hkE (by have := HEB.out; simp; omega) (fun hx a ha => by
  have h4 := HBL.out hx a ha
  obtain ⟨h1, h2, h3⟩ := HGE.out
  simp
  omega)
 have hF2 : Kept [b] w (v2.setRow E (bys I).toArray) := HKF.out.1.trans hkE (fun i hi hl => by
  simp only [List.mem_singleton] at hi
  obtain ⟨h1, h2, h3⟩ := HGE.out
  omega)
 exact ret_row rfl rfl E 23 (bys I).toArray (0, 0) _ rfl (setRow_heap _ _ _ _ _ _ hE2) Tryz.underlying23 rfl hia ⟨by rw [HI.out], hF1, hF2⟩
set_option maxHeartbeats 1600000 in
set_option maxRecDepth 100000 in
theorem end_left {w : World} {b : Nat} {ao : Option Addr} {cap : Nat} {xs : List UInt8} {s : Rs} (h : RdS w b ao cap xs s) (dao : Option Addr) (n dcap : Nat) (hn : xs.length = n) (hc : n ≤ dcap) (hm : n ≤ 100000000000) (hs : Sl w dao xs) (hfar : xs ≠ [] → ∀ a, dao = some a → a.block ≠ b) (hL : stLeft xs s ≠ 4) :
  Calls Tryz.prog 93 #[stV b, .slice dao n dcap] w fun e w' => e = gaveUp8 ∧ Kept [b] w w' := by
 have hK : Kept [] w (w.alloc (.cells (stC b).toArray 145)) := (Kept.refl [] w).alloc _
 have hX := Sx.new w b
 have HR := hide (h.later hK)
 have hlt := h.lt
 have HNB : Hid (w.heap.size ∉ [b]) := by show _ ∉ [b]; simp; omega
 have HN0 : Hid (w.heap.size ∉ ([] : List Nat)) := by show _ ∉ _; simp
 have HS := hide (hs.kept hK (by simp))
 have HD := hide (And.intro hn (And.intro hc (And.intro hm hfar)))
 have HK := hide hK
 clear hn hc hm hs hfar h hlt
 obtain ⟨G, hG⟩ : ∃ G, w.heap.size = G := ⟨_, rfl⟩
 rw [hG] at hX HNB HN0
 have HX := hide hX
 have cb := hX.cell
 go_enter Tryz.func93, Tryz.ntmps93
 go_upto_region 1 with (fail)
 clear hG hX hK
 generalize w.alloc (.cells (stC b).toArray 145) = w1 at *
 obtain ⟨lf, hlf⟩ : ∃ lf, stLeft xs s = lf := ⟨_, rfl⟩
 obtain ⟨q, hq0⟩ : ∃ q, (lf == 4) = q := ⟨_, rfl⟩
 have HLF := hide (And.intro hlf hq0)
 clear hlf
 refine wp_region_held_drew (S := fun w' => Kept [] w1 w') (by kernel_rfl) ((Kept.refl [] w1).drew) (fun h0 => ?_)
 generalize World.drew w1 = v0 at h0  ⊢
 refine wpAnyH_take (i := 0) (v := stV b) rfl (by kernel_rfl) (by kernel_rfl) (by kernel_rfl) (fun _ _ _ h => h) (yieldsIf_load_mid (by rfl) _ _ rfl G 0 rfl (stC b) _ (fun W h => (HX.out.kept h HN0.out).range) Tryz.underlying145 rfl Tryz.infoStrict) h0 ?_
 try simp only [z1, z2, z3, z4, z5, z6, z7, z8]
 refine wpAnyH_take (i := 1) (v := .pointer (some ⟨G, 0, none⟩)) rfl (by kernel_rfl) (by kernel_rfl) (by kernel_rfl) (fun _ _ _ h => h) (Or.inl ⟨by rfl, fun w hSw => by go_simp⟩) h0 ?_
 try simp only [z1, z2, z3, z4, z5, z6, z7, z8]
 refine wpAnyH_take (i := 2) (v := .pointer (some ⟨b, 0, none⟩)) rfl (by kernel_rfl) (by kernel_rfl) (by kernel_rfl) (fun _ _ _ h => h) (Or.inl ⟨by rfl, fun w hSw => by have c0 := Kept.cellOf hSw cb HN0.out; go_simp⟩) h0 ?_
 try simp only [z1, z2, z3, z4, z5, z6, z7, z8]
 refine wpAnyH_ready (rs := [3]) (by kernel_rfl) (by simp) (AllReadyH.cons (i := 3) rfl (fun K hK => ?_) AllReadyH.nil)
 rw [if_pos (by rfl)]
 go_simp
 refine (left_st (HR.out.later h0)).mono ?_
 rintro e v1 ⟨rfl, m, hq⟩
 have hq' : Kept [] v0 v1 := by rw [hq]; exact (Kept.refl [] v0).drewN m
 clear hq
 rw [HLF.out.1]
 refine hK.out _ _ (h0.trans hq' (by simp)) (fun h1 => ?_)
 clear hK K
 try simp only [z1, z2, z3, z4, z5, z6, z7, z8]
 clear hq' h0
 refine wpAnyH_take (i := 4) (v := .bool q) rfl (by kernel_rfl) (by kernel_rfl) (by kernel_rfl) (fun _ _ _ h => h) (Or.inl ⟨by rfl, fun w hSw => by go_simp⟩) h1 ?_
 try simp only [z1, z2, z3, z4, z5, z6, z7, z8]
 have hqf : q = false := by rw [← HLF.out.2]; simp only [beq_eq_false_iff_ne, ne_eq]; rw [← HLF.out.1]; exact hL
 subst hqf
 refine wpAnyH_ready (rs := [5]) (by kernel_rfl) (by simp) (AllReadyH.cons (i := 5) rfl (fun K hK => ?_) AllReadyH.nil)
 rw [if_pos (by rfl)]
 go_simp
 refine (must_no b v1).mono ?_
 rintro e v2 ⟨rfl, hq⟩
 exact ⟨rfl, rfl, ((HK.out.mono (by simp)).trans h1 (by simp)).trans hq (by simp)⟩
set_option maxHeartbeats 1600000 in
set_option maxRecDepth 100000 in
theorem end_sum {w : World} {b : Nat} {ao : Option Addr} {cap : Nat} {xs : List UInt8} {s : Rs} (h : RdS w b ao cap xs s) (dao : Option Addr) (n dcap : Nat) (hn : xs.length = n) (hc : n ≤ dcap) (hm : n ≤ 100000000000) (hs : Sl w dao xs) (hfar : xs ≠ [] → ∀ a, dao = some a → a.block ≠ b) (hL : stLeft xs s = 4) (hF : (stFixed xs s 4).1 ≠ (Pure.sum (xs.take (xs.length - 4)) : Nat)) :
  Calls Tryz.prog 93 #[stV b, .slice dao n dcap] w fun e w' => e = gaveUp8 ∧ Kept [b] w w' := by
 have hK : Kept [] w (w.alloc (.cells (stC b).toArray 145)) := (Kept.refl [] w).alloc _
 have hX := Sx.new w b
 have HR := hide (h.later hK)
 have hlt := h.lt
 have HNB : Hid (w.heap.size ∉ [b]) := by show _ ∉ [b]; simp; omega
 have HN0 : Hid (w.heap.size ∉ ([] : List Nat)) := by show _ ∉ _; simp
 have HS := hide (hs.kept hK (by simp))
 have HD := hide (And.intro hn (And.intro hc (And.intro hm hfar)))
 have HK := hide hK
 clear hn hc hm hs hfar h hlt
 obtain ⟨G, hG⟩ : ∃ G, w.heap.size = G := ⟨_, rfl⟩
 rw [hG] at hX HNB HN0
 have HX := hide hX
 have cb := hX.cell
 go_enter Tryz.func93, Tryz.ntmps93
 go_upto_region 1 with (fail)
 clear hG hX hK
 generalize w.alloc (.cells (stC b).toArray 145) = w1 at *
 obtain ⟨lf, hlf⟩ : ∃ lf, stLeft xs s = lf := ⟨_, rfl⟩
 obtain ⟨q, hq0⟩ : ∃ q, (lf == 4) = q := ⟨_, rfl⟩
 have HLF := hide (And.intro hlf hq0)
 clear hlf
 refine wp_region_held_drew (S := fun w' => Kept [] w1 w') (by kernel_rfl) ((Kept.refl [] w1).drew) (fun h0 => ?_)
 generalize World.drew w1 = v0 at h0  ⊢
 refine wpAnyH_take (i := 0) (v := stV b) rfl (by kernel_rfl) (by kernel_rfl) (by kernel_rfl) (fun _ _ _ h => h) (yieldsIf_load_mid (by rfl) _ _ rfl G 0 rfl (stC b) _ (fun W h => (HX.out.kept h HN0.out).range) Tryz.underlying145 rfl Tryz.infoStrict) h0 ?_
 try simp only [z1, z2, z3, z4, z5, z6, z7, z8]
 refine wpAnyH_take (i := 1) (v := .pointer (some ⟨G, 0, none⟩)) rfl (by kernel_rfl) (by kernel_rfl) (by kernel_rfl) (fun _ _ _ h => h) (Or.inl ⟨by rfl, fun w hSw => by go_simp⟩) h0 ?_
 try simp only [z1, z2, z3, z4, z5, z6, z7, z8]
 refine wpAnyH_take (i := 2) (v := .pointer (some ⟨b, 0, none⟩)) rfl (by kernel_rfl) (by kernel_rfl) (by kernel_rfl) (fun _ _ _ h => h) (Or.inl ⟨by rfl, fun w hSw => by have c0 := Kept.cellOf hSw cb HN0.out; go_simp⟩) h0 ?_
 try simp only [z1, z2, z3, z4, z5, z6, z7, z8]
 refine wpAnyH_ready (rs := [3]) (by kernel_rfl) (by simp) (AllReadyH.cons (i := 3) rfl (fun K hK => ?_) AllReadyH.nil)
 rw [if_pos (by rfl)]
 go_simp
 refine (left_st (HR.out.later h0)).mono ?_
 rintro e v1 ⟨rfl, m, hq⟩
 have hq' : Kept [] v0 v1 := by rw [hq]; exact (Kept.refl [] v0).drewN m
 clear hq
 rw [HLF.out.1]
 refine hK.out _ _ (h0.trans hq' (by simp)) (fun h1 => ?_)
 clear hK K
 try simp only [z1, z2, z3, z4, z5, z6, z7, z8]
 clear hq' h0
 refine wpAnyH_take (i := 4) (v := .bool q) rfl (by kernel_rfl) (by kernel_rfl) (by kernel_rfl) (fun _ _ _ h => h) (Or.inl ⟨by rfl, fun w hSw => by go_simp⟩) h1 ?_
 try simp only [z1, z2, z3, z4, z5, z6, z7, z8]
 have hqt : q = true := by rw [← HLF.out.2]; simp only [beq_iff_eq]; rw [← HLF.out.1]; exact hL
 subst hqt
 refine wpAnyH_ready (rs := [5]) (by kernel_rfl) (by simp) (AllReadyH.cons (i := 5) rfl (fun K hK => ?_) AllReadyH.nil)
 rw [if_pos (by rfl)]
 go_simp
 refine (must_yes b v1).mono ?_
 rintro e v2 ⟨rfl, hq⟩
 refine hK.out _ _ (h1.trans hq (by simp)) (fun h2 => ?_)
 clear hK K
 try simp only [z1, z2, z3, z4, z5, z6, z7, z8]
 refine wpAnyH_done (by kernel_rfl) ?_ _
 clear hq h1 hq0
 have hn4 : 4 ≤ n := by
  have h4 := hL
  unfold stLeft at h4
  have := HD.out.1
  split at h4
  ·omega
  ·omega
 go_upto_region 2 with (fail)
 have HR2 := hide (HR.out.later h2)
 have HX2 := hide (HX.out.kept h2 HN0.out)
 have HS2 := hide ((HS.out.kept h2 (by simp)).take (n - 4))
 have HK2 := hide ((HK.out.mono (l2 := [b]) (by simp)).trans h2 (by simp))
 have cb2 := HX2.out.cell
 clear HX HR HS HK cb h2
 have hcut := fun W => Tryz.cutTo W dao n dcap (n - 4) (by have := HD.out.2.1; omega)
 have hsub : (n : Int) - 4 = ((n - 4 : Nat) : Int) := by omega
 have hnm : n ≤ 100000000000 := HD.out.2.2.1
 have htl : (xs.take (n - 4)).length = n - 4 := by rw [List.length_take, HD.out.1]; omega
 have hwr : IntKind.i64.wrap ((n - 4 : Nat) : Int) = ((n - 4 : Nat) : Int) := wrap64 (by omega) (by omega)
 have HFR : Hid (xs.take (n - 4) ≠ [] → ∀ a, dao = some a → a.block ∉ [b]) := fun hx a ha => by
  have h1 := HD.out.2.2.2 (by rintro rfl; simp at hx) a ha
  simpa using h1
 rw [HD.out.1] at hF
 have HTL := hide htl
 obtain ⟨N4, hN4⟩ : ∃ N4, n - 4 = N4 := ⟨_, rfl⟩
 rw [hN4] at hcut hsub hwr HS2 HFR HTL hF
 generalize xs.take N4 = ys at HS2 HFR HTL hF
 clear hN4 htl
 have HTL2 : Hid (N4 ≤ 100000000000) := by show _ ≤ _; omega
 refine wp_region_held_drew (S := fun w' => Kept [b] v2 w') (by kernel_rfl) ((Kept.refl [b] v2).drew) (fun g0 => ?_)
 have gk : Kept [] v2 (World.drew v2) := (Kept.refl [] v2).drew
 generalize World.drew v2 = u0 at g0 gk ⊢
 refine wpAnyH_take (i := 0) (v := stV b) rfl (by kernel_rfl) (by kernel_rfl) (by kernel_rfl) (fun _ _ _ h => h) (yieldsIf_load_mid (by rfl) _ _ rfl G 0 rfl (stC b) _ (fun W h => (HX2.out.kept h HNB.out).range) Tryz.underlying145 rfl Tryz.infoStrict) g0 ?_
 try simp only [z1, z2, z3, z4, z5, z6, z7, z8]
 refine wpAnyH_take (i := 1) (v := .pointer (some ⟨G, 0, none⟩)) rfl (by kernel_rfl) (by kernel_rfl) (by kernel_rfl) (fun _ _ _ h => h) (Or.inl ⟨by rfl, fun w hSw => by go_simp⟩) g0 ?_
 try simp only [z1, z2, z3, z4, z5, z6, z7, z8]
 refine wpAnyH_take (i := 2) (v := .pointer (some ⟨b, 0, none⟩)) rfl (by kernel_rfl) (by kernel_rfl) (by kernel_rfl) (fun _ _ _ h => h) (Or.inl ⟨by rfl, fun w hSw => by have c0 := Kept.cellOf hSw cb2 HNB.out; go_simp⟩) g0 ?_
 try simp only [z1, z2, z3, z4, z5, z6, z7, z8]
 refine wpAnyH_take (i := 4) (v := .slice dao n dcap) rfl (by kernel_rfl) (by kernel_rfl) (by kernel_rfl) (fun _ _ _ h => h) (Or.inl ⟨by rfl, fun w hSw => by go_simp⟩) g0 ?_
 try simp only [z1, z2, z3, z4, z5, z6, z7, z8]
 refine wpAnyH_take (i := 5) (v := .slice dao n dcap) rfl (by kernel_rfl) (by kernel_rfl) (by kernel_rfl) (fun _ _ _ h => h) (Or.inl ⟨by rfl, fun w hSw => by go_simp⟩) g0 ?_
 try simp only [z1, z2, z3, z4, z5, z6, z7, z8]
 refine wpAnyH_take (i := 6) (v := .int .i64 n) rfl (by kernel_rfl) (by kernel_rfl) (by kernel_rfl) (fun _ _ _ h => h) (Or.inl ⟨by rfl, fun w hSw => by go_simp⟩) g0 ?_
 try simp only [z1, z2, z3, z4, z5, z6, z7, z8]
 refine wpAnyH_take (i := 7) (v := .int .i64 N4) rfl (by kernel_rfl) (by kernel_rfl) (by kernel_rfl) (fun _ _ _ h => h) (Or.inl ⟨by rfl, fun w hSw => by go_simp⟩) g0 ?_
 try simp only [z1, z2, z3, z4, z5, z6, z7, z8]
 refine wpAnyH_take (i := 8) (v := .slice dao N4 dcap) rfl (by kernel_rfl) (by kernel_rfl) (by kernel_rfl) (fun _ _ _ h => h) (Or.inl ⟨by rfl, fun w hSw => by have c0 := hcut w; go_simp⟩) g0 ?_
 try simp only [z1, z2, z3, z4, z5, z6, z7, z8]
 refine wpAnyH_ready (rs := [3]) (by kernel_rfl) (by simp) (AllReadyH.cons (i := 3) rfl (fun K hK => ?_) AllReadyH.nil)
 rw [if_pos (by rfl)]
 go_simp
 refine (rfixed_st (HR2.out.later gk) 4).mono ?_
 rintro e u1 ⟨rfl, hk5, hr5⟩
 refine hK.out _ _ (g0.trans hk5 (by simp)) (fun g1 => ?_)
 clear hK K
 try simp only [z1, z2, z3, z4, z5, z6, z7, z8]
 clear gk g0 hk5 hr5
 refine wpAnyH_ready (rs := [9]) (by kernel_rfl) (by simp) (AllReadyH.cons (i := 9) rfl (fun K hK => ?_) AllReadyH.nil)
 rw [if_pos (by rfl)]
 go_simp
 refine (sum_at (cap := dcap) HTL.out HTL2.out (HS2.out.kept g1 HFR.out)).mono ?_
 rintro e u2 ⟨rfl, hk6⟩
 refine hK.out _ _ (g1.trans hk6 (by simp)) (fun g2 => ?_)
 clear hK K
 try simp only [z1, z2, z3, z4, z5, z6, z7, z8]
 clear g1 hk6
 have hne : ((stFixed xs s 4).1 == (Pure.sum ys : Int)) = false := by simp only [beq_eq_false_iff_ne, ne_eq]; exact hF
 refine wpAnyH_take (i := 10) (v := .bool false) rfl (by kernel_rfl) (by kernel_rfl) (by kernel_rfl) (fun _ _ _ h => h) (Or.inl ⟨by rfl, fun w hSw => by go_simp⟩) g2 ?_
 try simp only [z1, z2, z3, z4, z5, z6, z7, z8]
 refine wpAnyH_ready (rs := [11]) (by kernel_rfl) (by simp) (AllReadyH.cons (i := 11) rfl (fun K hK => ?_) AllReadyH.nil)
 rw [if_pos (by rfl)]
 go_simp
 refine (must_no b u2).mono ?_
 rintro e u3 ⟨rfl, hq⟩
 exact ⟨rfl, rfl, (HK2.out.trans g2 (by simp)).trans hq (by simp)⟩
set_option maxHeartbeats 1600000 in
set_option maxRecDepth 100000 in
theorem end_yes {w : World} {b : Nat} {ao : Option Addr} {cap : Nat} {xs : List UInt8} {s : Rs} (h : RdS w b ao cap xs s) (dao : Option Addr) (n dcap : Nat) (hn : xs.length = n) (hc : n ≤ dcap) (hm : n ≤ 100000000000) (hs : Sl w dao xs) (hfar : xs ≠ [] → ∀ a, dao = some a → a.block ≠ b) (hL : stLeft xs s = 4) (hF : (stFixed xs s 4).1 = (Pure.sum (xs.take (xs.length - 4)) : Nat)) :
  Calls Tryz.prog 93 #[stV b, .slice dao n dcap] w fun e w' => e = .returned (.tuple #[]) ∧ Kept [b] w w' := by
 have hK : Kept [] w (w.alloc (.cells (stC b).toArray 145)) := (Kept.refl [] w).alloc _
 have hX := Sx.new w b
 have HR := hide (h.later hK)
 have hlt := h.lt
 have HNB : Hid (w.heap.size ∉ [b]) := by show _ ∉ [b]; simp; omega
 have HN0 : Hid (w.heap.size ∉ ([] : List Nat)) := by show _ ∉ _; simp
 have HS := hide (hs.kept hK (by simp))
 have HD := hide (And.intro hn (And.intro hc (And.intro hm hfar)))
 have HK := hide hK
 clear hn hc hm hs hfar h hlt
 obtain ⟨G, hG⟩ : ∃ G, w.heap.size = G := ⟨_, rfl⟩
 rw [hG] at hX HNB HN0
 have HX := hide hX
 have cb := hX.cell
 go_enter Tryz.func93, Tryz.ntmps93
 go_upto_region 1 with (fail)
 clear hG hX hK
 generalize w.alloc (.cells (stC b).toArray 145) = w1 at *
 obtain ⟨lf, hlf⟩ : ∃ lf, stLeft xs s = lf := ⟨_, rfl⟩
 obtain ⟨q, hq0⟩ : ∃ q, (lf == 4) = q := ⟨_, rfl⟩
 have HLF := hide (And.intro hlf hq0)
 clear hlf
 refine wp_region_held_drew (S := fun w' => Kept [] w1 w') (by kernel_rfl) ((Kept.refl [] w1).drew) (fun h0 => ?_)
 generalize World.drew w1 = v0 at h0  ⊢
 refine wpAnyH_take (i := 0) (v := stV b) rfl (by kernel_rfl) (by kernel_rfl) (by kernel_rfl) (fun _ _ _ h => h) (yieldsIf_load_mid (by rfl) _ _ rfl G 0 rfl (stC b) _ (fun W h => (HX.out.kept h HN0.out).range) Tryz.underlying145 rfl Tryz.infoStrict) h0 ?_
 try simp only [z1, z2, z3, z4, z5, z6, z7, z8]
 refine wpAnyH_take (i := 1) (v := .pointer (some ⟨G, 0, none⟩)) rfl (by kernel_rfl) (by kernel_rfl) (by kernel_rfl) (fun _ _ _ h => h) (Or.inl ⟨by rfl, fun w hSw => by go_simp⟩) h0 ?_
 try simp only [z1, z2, z3, z4, z5, z6, z7, z8]
 refine wpAnyH_take (i := 2) (v := .pointer (some ⟨b, 0, none⟩)) rfl (by kernel_rfl) (by kernel_rfl) (by kernel_rfl) (fun _ _ _ h => h) (Or.inl ⟨by rfl, fun w hSw => by have c0 := Kept.cellOf hSw cb HN0.out; go_simp⟩) h0 ?_
 try simp only [z1, z2, z3, z4, z5, z6, z7, z8]
 refine wpAnyH_ready (rs := [3]) (by kernel_rfl) (by simp) (AllReadyH.cons (i := 3) rfl (fun K hK => ?_) AllReadyH.nil)
 rw [if_pos (by rfl)]
 go_simp
 refine (left_st (HR.out.later h0)).mono ?_
 rintro e v1 ⟨rfl, m, hq⟩
 have hq' : Kept [] v0 v1 := by rw [hq]; exact (Kept.refl [] v0).drewN m
 clear hq
 rw [HLF.out.1]
 refine hK.out _ _ (h0.trans hq' (by simp)) (fun h1 => ?_)
 clear hK K
 try simp only [z1, z2, z3, z4, z5, z6, z7, z8]
 clear hq' h0
 refine wpAnyH_take (i := 4) (v := .bool q) rfl (by kernel_rfl) (by kernel_rfl) (by kernel_rfl) (fun _ _ _ h => h) (Or.inl ⟨by rfl, fun w hSw => by go_simp⟩) h1 ?_
 try simp only [z1, z2, z3, z4, z5, z6, z7, z8]
 have hqt : q = true := by rw [← HLF.out.2]; simp only [beq_iff_eq]; rw [← HLF.out.1]; exact hL
 subst hqt
 refine wpAnyH_ready (rs := [5]) (by kernel_rfl) (by simp) (AllReadyH.cons (i := 5) rfl (fun K hK => ?_) AllReadyH.nil)
 rw [if_pos (by rfl)]
 go_simp
 refine (must_yes b v1).mono ?_
 rintro e v2 ⟨rfl, hq⟩
 refine hK.out _ _ (h1.trans hq (by simp)) (fun h2 => ?_)
 clear hK K
 try simp only [z1, z2, z3, z4, z5, z6, z7, z8]
 refine wpAnyH_done (by kernel_rfl) ?_ _
 clear hq h1 hq0
 have hn4 : 4 ≤ n := by
  have h4 := hL
  unfold stLeft at h4
  have := HD.out.1
  split at h4
  ·omega
  ·omega
 go_upto_region 2 with (fail)
 have HR2 := hide (HR.out.later h2)
 have HX2 := hide (HX.out.kept h2 HN0.out)
 have HS2 := hide ((HS.out.kept h2 (by simp)).take (n - 4))
 have HK2 := hide ((HK.out.mono (l2 := [b]) (by simp)).trans h2 (by simp))
 have cb2 := HX2.out.cell
 clear HX HR HS HK cb h2
 have hcut := fun W => Tryz.cutTo W dao n dcap (n - 4) (by have := HD.out.2.1; omega)
 have hsub : (n : Int) - 4 = ((n - 4 : Nat) : Int) := by omega
 have hnm : n ≤ 100000000000 := HD.out.2.2.1
 have htl : (xs.take (n - 4)).length = n - 4 := by rw [List.length_take, HD.out.1]; omega
 have hwr : IntKind.i64.wrap ((n - 4 : Nat) : Int) = ((n - 4 : Nat) : Int) := wrap64 (by omega) (by omega)
 have HFR : Hid (xs.take (n - 4) ≠ [] → ∀ a, dao = some a → a.block ∉ [b]) := fun hx a ha => by
  have h1 := HD.out.2.2.2 (by rintro rfl; simp at hx) a ha
  simpa using h1
 rw [HD.out.1] at hF
 have HTL := hide htl
 obtain ⟨N4, hN4⟩ : ∃ N4, n - 4 = N4 := ⟨_, rfl⟩
 rw [hN4] at hcut hsub hwr HS2 HFR HTL hF
 generalize xs.take N4 = ys at HS2 HFR HTL hF
 clear hN4 htl
 have HTL2 : Hid (N4 ≤ 100000000000) := by show _ ≤ _; omega
 refine wp_region_held_drew (S := fun w' => Kept [b] v2 w') (by kernel_rfl) ((Kept.refl [b] v2).drew) (fun g0 => ?_)
 have gk : Kept [] v2 (World.drew v2) := (Kept.refl [] v2).drew
 generalize World.drew v2 = u0 at g0 gk ⊢
 refine wpAnyH_take (i := 0) (v := stV b) rfl (by kernel_rfl) (by kernel_rfl) (by kernel_rfl) (fun _ _ _ h => h) (yieldsIf_load_mid (by rfl) _ _ rfl G 0 rfl (stC b) _ (fun W h => (HX2.out.kept h HNB.out).range) Tryz.underlying145 rfl Tryz.infoStrict) g0 ?_
 try simp only [z1, z2, z3, z4, z5, z6, z7, z8]
 refine wpAnyH_take (i := 1) (v := .pointer (some ⟨G, 0, none⟩)) rfl (by kernel_rfl) (by kernel_rfl) (by kernel_rfl) (fun _ _ _ h => h) (Or.inl ⟨by rfl, fun w hSw => by go_simp⟩) g0 ?_
 try simp only [z1, z2, z3, z4, z5, z6, z7, z8]
 refine wpAnyH_take (i := 2) (v := .pointer (some ⟨b, 0, none⟩)) rfl (by kernel_rfl) (by kernel_rfl) (by kernel_rfl) (fun _ _ _ h => h) (Or.inl ⟨by rfl, fun w hSw => by have c0 := Kept.cellOf hSw cb2 HNB.out; go_simp⟩) g0 ?_
 try simp only [z1, z2, z3, z4, z5, z6, z7, z8]
 refine wpAnyH_take (i := 4) (v := .slice dao n dcap) rfl (by kernel_rfl) (by kernel_rfl) (by kernel_rfl) (fun _ _ _ h => h) (Or.inl ⟨by rfl, fun w hSw => by go_simp⟩) g0 ?_
 try simp only [z1, z2, z3, z4, z5, z6, z7, z8]
 refine wpAnyH_take (i := 5) (v := .slice dao n dcap) rfl (by kernel_rfl) (by kernel_rfl) (by kernel_rfl) (fun _ _ _ h => h) (Or.inl ⟨by rfl, fun w hSw => by go_simp⟩) g0 ?_
 try simp only [z1, z2, z3, z4, z5, z6, z7, z8]
 refine wpAnyH_take (i := 6) (v := .int .i64 n) rfl (by kernel_rfl) (by kernel_rfl) (by kernel_rfl) (fun _ _ _ h => h) (Or.inl ⟨by rfl, fun w hSw => by go_simp⟩) g0 ?_
 try simp only [z1, z2, z3, z4, z5, z6, z7, z8]
 refine wpAnyH_take (i := 7) (v := .int .i64 N4) rfl (by kernel_rfl) (by kernel_rfl) (by kernel_rfl) (fun _ _ _ h => h) (Or.inl ⟨by rfl, fun w hSw => by go_simp⟩) g0 ?_
 try simp only [z1, z2, z3, z4, z5, z6, z7, z8]
 refine wpAnyH_take (i := 8) (v := .slice dao N4 dcap) rfl (by kernel_rfl) (by kernel_rfl) (by kernel_rfl) (fun _ _ _ h => h) (Or.inl ⟨by rfl, fun w hSw => by have c0 := hcut w; go_simp⟩) g0 ?_
 try simp only [z1, z2, z3, z4, z5, z6, z7, z8]
 refine wpAnyH_ready (rs := [3]) (by kernel_rfl) (by simp) (AllReadyH.cons (i := 3) rfl (fun K hK => ?_) AllReadyH.nil)
 rw [if_pos (by rfl)]
 go_simp
 refine (rfixed_st (HR2.out.later gk) 4).mono ?_
 rintro e u1 ⟨rfl, hk5, hr5⟩
 refine hK.out _ _ (g0.trans hk5 (by simp)) (fun g1 => ?_)
 clear hK K
 try simp only [z1, z2, z3, z4, z5, z6, z7, z8]
 clear gk g0 hk5 hr5
 refine wpAnyH_ready (rs := [9]) (by kernel_rfl) (by simp) (AllReadyH.cons (i := 9) rfl (fun K hK => ?_) AllReadyH.nil)
 rw [if_pos (by rfl)]
 go_simp
 refine (sum_at (cap := dcap) HTL.out HTL2.out (HS2.out.kept g1 HFR.out)).mono ?_
 rintro e u2 ⟨rfl, hk6⟩
 refine hK.out _ _ (g1.trans hk6 (by simp)) (fun g2 => ?_)
 clear hK K
 try simp only [z1, z2, z3, z4, z5, z6, z7, z8]
 clear g1 hk6
 try rw [hF]
 refine wpAnyH_take (i := 10) (v := .bool true) rfl (by kernel_rfl) (by kernel_rfl) (by kernel_rfl) (fun _ _ _ h => h) (Or.inl ⟨by rfl, fun w hSw => by go_simp⟩) g2 ?_
 try simp only [z1, z2, z3, z4, z5, z6, z7, z8]
 refine wpAnyH_ready (rs := [11]) (by kernel_rfl) (by simp) (AllReadyH.cons (i := 11) rfl (fun K hK => ?_) AllReadyH.nil)
 rw [if_pos (by rfl)]
 go_simp
 refine (must_yes b u2).mono ?_
 rintro e u3 ⟨rfl, hq⟩
 refine hK.out _ _ (g2.trans hq (by simp)) (fun g3 => ?_)
 clear hK K
 try simp only [z1, z2, z3, z4, z5, z6, z7, z8]
 refine wpAnyH_done (by kernel_rfl) ?_ _
 go_end0
 exact ⟨rfl, HK2.out.trans g3 (by simp)⟩
end Go.Proofs.YtmklodligplbaabGreat
