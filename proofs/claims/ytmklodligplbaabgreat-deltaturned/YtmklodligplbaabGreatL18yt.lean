import Derived.Test.YtmklodligplbaabGreatL18et
import Derived.Test.YtmklodligplbaabGreatDr5t
import Derived.ProofKit
import Derived.OpenShut
import Derived.Deep.Slices
import Derived.Lib.SmallJoins
open Go.RowKit
set_option linter.unusedVariables false
set_option linter.unusedSimpArgs false
set_option maxRecDepth 100000
set_option maxHeartbeats 0
namespace Go.Proofs.YtmklodligplbaabGreat
section
open Dlt
theorem heap_ltS {w : World} {g : Nat} {o : Obj} (h : w.heap[g]? = some o) : g < w.heap.size := (gs h).1
def gsY (a b c : Int) (I : List UInt8) (h : I.length = 32) : Sig := ⟨a, b, c, I, [], h⟩
theorem zl32 : (List.replicate 32 (0 : UInt8)).length = 32 := by simp
structure Dst (w wr : World) (b R D : Nat) (s : Sig) (v : Value) : Prop where
 kept : Kept [] w wr
 rAt : wr.heap[R]? = some (.cells zeroS 26 (0, 0))
 dAt : SigAt wr D s v
 ps : w.heap.size = R ∧ R < b ∧ b < D
theorem Dst.move {l : List Nat} {w wr w' : World} {b R D : Nat} {s : Sig} {v : Value} (h : Dst w wr b R D s v) (hk : Kept l wr w') (hl : ∀ i, i ∈ l -> R < i ∧ i ≠ D) : Dst w w' b R D s v := by
 have := h.ps
 refine ⟨h.kept.trans hk (fun i hi hlt => by have := hl i hi; omega), (hk.block R (heap_ltS h.rAt) (fun hm => by have := hl R hm; omega)).trans h.rAt, h.dAt.kept hk (fun hm => (hl D hm).2 rfl), h.ps⟩
theorem Dst.call {w wr w' : World} {b R D : Nat} {s : Sig} {v : Value} (h : Dst w wr b R D s v) (hk : Kept [b] wr w') : Dst w w' b R D s v :=
 h.move hk (fun i hi => by simp only [List.mem_singleton] at hi; have := h.ps; omega)
theorem Dst.put {w wr w' : World} {b R D : Nat} {s s' : Sig} {v v' : Value} (h : Dst w wr b R D s v) (hk : Kept [D] wr w') (hd : SigAt w' D s' v') : Dst w w' b R D s' v' := by
 have := h.ps
 exact ⟨h.kept.trans hk (fun i hi hlt => by simp only [List.mem_singleton] at hi; omega), (hk.block R (heap_ltS h.rAt) (by simp; omega)).trans h.rAt, hd, h.ps⟩
def DecE (w w' : World) (e : Ending) : Option Sig -> Prop
 | none => TellS w w' e 180 sig0
 | some s => TellS w w' e 0 s
theorem DecE.zero (w w' : World) {o : Option Sig} (h : o = none) : DecE w w' (.returned (.tuple #[.agg zeroS, .int .i64 180])) o := by
 subst h
 exact ⟨.slice none 0 0, rfl, World.ownsRow_nil _ _ _ _⟩
def rmeas (wr : World) (b n : Nat) : Nat := if intOf ((wr.cell? ⟨b, 2, none⟩).getD undef) = 0 then n + 1 - (intOf ((wr.cell? ⟨b, 1, none⟩).getD undef)).toNat else 0
theorem RfS.meas {wr : World} {b : Nat} {ao : Option Addr} {cap : Nat} {ys : List UInt8} {s : Rs} (h : RfS wr b ao cap ys s) (n : Nat) : rmeas wr b n = if s.e = 0 then n + 1 - s.at_ else 0 := by
 unfold rmeas
 rw [h.c1, h.c2]
 rfl
theorem rdW_at {xs : List UInt8} {s : Rs} {W : Nat} (he : s.e = 0) : s.at_ <= (rdW xs (W : Nat) s).2.at_ ∧ ((rdW xs (W : Nat) s).2.e = 0 -> s.at_ + 4 <= (rdW xs (W : Nat) s).2.at_) := by
 have h1 : s.at_ <= (stFixed xs s 4).2.at_ ∧ ((stFixed xs s 4).2.e = 0 -> s.at_ + 4 <= (stFixed xs s 4).2.at_) := by
  unfold stFixed
  rw [if_pos he, if_neg (by omega)]
  split
  ·exact ⟨Nat.le_refl _, fun h => by simp at h⟩
  ·exact ⟨by show s.at_ <= s.at_ + (4 : Int).toNat; omega, fun _ => by show s.at_ + 4 <= s.at_ + (4 : Int).toNat; omega⟩
 show s.at_ <= (stRaw xs (stFixed xs s 4).2 (W : Nat)).2.at_ ∧ ((stRaw xs (stFixed xs s 4).2 (W : Nat)).2.e = 0 -> s.at_ + 4 <= (stRaw xs (stFixed xs s 4).2 (W : Nat)).2.at_)
 generalize (stFixed xs s 4).2 = s1 at h1
 unfold stRaw
 split
 ·rename_i h0
  have := h1.2 h0
  split
  ·exact ⟨h1.1, fun h => by simp at h⟩
  ·split
   ·exact ⟨h1.1, fun h => by simp at h⟩
   ·exact ⟨by show s.at_ <= s1.at_ + ((W : Nat) : Int).toNat; omega, fun _ => by show s.at_ + 4 <= s1.at_ + ((W : Nat) : Int).toNat; omega⟩
 ·rename_i h0
  exact ⟨h1.1, fun h => absurd h h0⟩
theorem stLeft_ge (xs : List UInt8) (s : Rs) : 0 <= stLeft xs s := by
 unfold stLeft
 split
 ·omega
 ·exact Int.le_refl 0
theorem rdec_open (ao : Option Addr) (n cap : Nat) (xs : List UInt8) (w : World) (h : InB8 w ao n cap xs) (dd : Option Sig) (ho : openB xs = none) (hno : dd = none) :
  Calls Tryz.prog 53 #[.slice ao n cap] w fun e w' => DecE w w' e dd ∧ Kept [] w w' := by
 have hz := Tryz.zeroSig
 have K0 := ka w (.cells zeroS 26)
 have hr0 := heap_new w (.cells zeroS 26)
 have hop := ropened_ok ao n cap xs _ (h.kept K0)
 rw [ho] at hop
 have H := hide h
 obtain ⟨R, hR⟩ := nm (w.heap.size)
 rw [hR] at hr0
 have HRW := hide hR
 clear h ho
 go_enter Tryz.func53, Tryz.ntmps53
 go_upto_region 1 with (fail)
 try rw [hR]
 clear hR
 generalize w.alloc (.cells zeroS 26) = w1 at *
 have HNO := hide hno
 clear hno
 go_upto_region 3 with (go_at_call 32; refine hop.mono ?_; rintro r w2 ⟨⟨v, rfl⟩, hk2⟩; have HK2 := hide hk2; clear hop hk2)
 have hrR := (HK2.out.block R (heap_ltS hr0) (by simp)).trans hr0
 have HKZ : Hid (Kept [] w (w2.setRow R zeroS)) := (K0.tr HK2.out).trans (kept_row _ _ _) (fun i hi hl => by simp only [List.mem_singleton] at hi; have := HRW.out; omega)
 clear hr0 K0 HK2 hz
 have hbz := Tryz.builtSigZ
 have hiD : (Tryz.prog.info? 26).map (·.size) = some zeroS.size := Tryz.infoSigA sig0 (.slice none 0 0)
 have haD : zeroS.all (·.oneCell') = true := sig_one sig0 _ rfl
 have hrow : (w2.setRow R zeroS).heap[R]? = some (.cells zeroS 26 (0, 0)) := setRow_heap _ _ _ _ _ _ hrR
 go_wp2_with (first
  | refine wpList_buildRun8 rfl 26 #[] rfl #[] (by simp) _ (hbz _) ?_
  | refine wpList_store_rowTo rfl 26 (.tmp 2) (.tmp 16) rfl rfl R zeroS rfl rfl 26 zeroS hrR hiD rfl haD ?_)
 refine ret_row_slot rfl rfl R 26 _ (0, 0) _ rfl hrow Tryz.underlying26 rfl hiD ?_
 exact ⟨DecE.zero _ _ HNO.out, HKZ.out⟩
theorem rdec_mark (ao : Option Addr) (n cap : Nat) (xs : List UInt8) (w : World) (h : InB8 w ao n cap xs) (dd : Option Sig) (ys : List UInt8) (ho : openB xs = some ys) (hmk : mk ys ≠ 83) (hno : dd = none) :
  Calls Tryz.prog 53 #[.slice ao n cap] w fun e w' => DecE w w' e dd ∧ Kept [] w w' := by
 have hz := Tryz.zeroSig
 have K0 := ka w (.cells zeroS 26)
 have hr0 := heap_new w (.cells zeroS 26)
 have hop := ropened_ok ao n cap xs _ (h.kept K0)
 rw [ho] at hop
 have H := hide h
 obtain ⟨R, hR⟩ := nm (w.heap.size)
 rw [hR] at hr0
 have HRW := hide hR
 clear h ho
 go_enter Tryz.func53, Tryz.ntmps53
 go_upto_region 1 with (fail)
 try rw [hR]
 clear hR
 generalize w.alloc (.cells zeroS 26) = w1 at *
 have HNO := hide hno
 clear hno
 go_upto_region 4 with (go_at_call 32; refine hop.mono ?_; rintro r w2 ⟨⟨rfl, hys, h4, h13⟩, hk2⟩; have H2 := hide (ai hys (ai h4 (ai h13 hk2))); clear hop hys h4 h13 hk2)
 obtain ⟨m, hm⟩ := nm (n - 4)
 have HK2 := hide (K0.tr H2.out.2.2.2)
 have hyl : ys.length = m := by rw [H2.out.1, List.length_take, H.out.len, <-hm]; omega
 have hm13 : m <= 131072 := by have := H2.out.2.2.1; omega
 have hsy : Sl w ao ys := by rw [H2.out.1]; exact H.out.sl.take _
 have HSB : Hid (ys ≠ [] -> ∀ a, ao = some a -> a.block < w.heap.size) := fun hne a ha => by
  obtain ⟨bb, off, e, hb, _⟩ := hsy.open hne
  rw [e] at ha; injection ha with ha; subst ha; exact hb
 have hbR := Tryz.builtR ao m cap
 have hrf := Rf.new (hsy.kept HK2.out (by simp)) hyl (by have := H.out.le; omega : m <= cap) (by omega)
 obtain ⟨b, hb⟩ := nm (w2.heap.size)
 have HRb : Hid (w.heap.size = R ∧ R < b) := ⟨HRW.out, by have := heap_ltS hr0; have := H2.out.2.2.2.size; omega⟩
 have hr2 := (H2.out.2.2.2.block R (heap_ltS hr0) (by simp)).trans hr0
 rw [hb] at hrf
 rw [hm]
 clear hm hr0 K0
 go_upto_region 5 with (refine wpList_buildRun8 rfl 79 #[(0, .tmp 17)] rfl #[(0, .slice ao m cap)] (by simp [Act.eval]) _ (hbR _) ?_)
 have k3 := ka w2 (.cells #[.slice ao m cap, .int .i64 0, .int .i64 0, .int .i64 0] 79)
 try rw [hb]
 have HS3 : Hid (Kept [] w (w2.alloc (.cells #[.slice ao m cap, .int .i64 0, .int .i64 0, .int .i64 0] 79)) ∧ (w2.alloc (.cells #[.slice ao m cap, .int .i64 0, .int .i64 0, .int .i64 0] 79)).heap[R]? = some (.cells zeroS 26 (0, 0))) := ⟨HK2.out.tr k3, (k3.block R (heap_ltS hr2) (by simp)).trans hr2⟩
 have hR3 : RfS (w2.alloc (.cells #[.slice ao m cap, .int .i64 0, .int .i64 0, .int .i64 0] 79)) b ao cap ys ⟨0, 0, 0⟩ := hrf
 clear hrf hr2 k3 hb hbR HK2 H2
 generalize w2.alloc (.cells #[.slice ao m cap, .int .i64 0, .int .i64 0, .int .i64 0] 79) = w3 at HS3 hR3 ⊢
 have htf := takefix_st hR3 1
 clear hR3
 rw [show (stFixed ys ⟨0, 0, 0⟩ 1).1 = mk ys from rfl] at htf
 have hmk1 : (mk ys != 83) = true := by simpa using hmk
 clear hmk
 generalize mk ys = mm at *
 go_upto_region 6 with (go_at_call 33; refine htf.mono ?_; rintro r w4 ⟨rfl, hk4, _⟩; have HK4 := hide hk4; clear htf hk4)
 have hrR := (HK4.out.block R (heap_ltS HS3.out.2) (by have := HRb.out; simp; omega)).trans HS3.out.2
 have HKZ : Hid (Kept [] w (w4.setRow R zeroS)) := (HS3.out.1.trans HK4.out (fun i hi hl => by simp only [List.mem_singleton] at hi; have := HRb.out; omega)).trans (kept_row _ _ _) (fun i hi hl => by simp only [List.mem_singleton] at hi; have := HRb.out; omega)
 clear HS3 HK4 hmk1 hz
 have hbz := Tryz.builtSigZ
 have hiD : (Tryz.prog.info? 26).map (·.size) = some zeroS.size := Tryz.infoSigA sig0 (.slice none 0 0)
 have haD : zeroS.all (·.oneCell') = true := sig_one sig0 _ rfl
 have hrow : (w4.setRow R zeroS).heap[R]? = some (.cells zeroS 26 (0, 0)) := setRow_heap _ _ _ _ _ _ hrR
 go_wp2_with (first
  | refine wpList_buildRun8 rfl 26 #[] rfl #[] (by simp) _ (hbz _) ?_
  | refine wpList_store_rowTo rfl 26 (.tmp 2) (.tmp 23) rfl rfl R zeroS rfl rfl 26 zeroS hrR hiD rfl haD ?_)
 refine ret_row_slot rfl rfl R 26 _ (0, 0) _ rfl hrow Tryz.underlying26 rfl hiD ?_
 exact ⟨DecE.zero _ _ HNO.out, HKZ.out⟩
theorem rdec_head (ao : Option Addr) (n cap : Nat) (xs : List UInt8) (w : World) (h : InB8 w ao n cap xs) (dd : Option Sig) (ys : List UInt8) (ho : openB xs = some ys) (hmk : mk ys = 83) (hbad : ¬ ((Dlt.s4 ys).e = 0 ∧ (isW (nW ys) && isZ (nZ ys)) = true)) (hno : dd = none) :
  Calls Tryz.prog 53 #[.slice ao n cap] w fun e w' => DecE w w' e dd ∧ Kept [] w w' := by
 have hz := Tryz.zeroSig
 have K0 := ka w (.cells zeroS 26)
 have hr0 := heap_new w (.cells zeroS 26)
 have hop := ropened_ok ao n cap xs _ (h.kept K0)
 rw [ho] at hop
 have H := hide h
 obtain ⟨R, hR⟩ := nm (w.heap.size)
 rw [hR] at hr0
 have HRW := hide hR
 clear h ho
 go_enter Tryz.func53, Tryz.ntmps53
 go_upto_region 1 with (fail)
 try rw [hR]
 clear hR
 generalize w.alloc (.cells zeroS 26) = w1 at *
 have HNO := hide hno
 clear hno
 go_upto_region 4 with (go_at_call 32; refine hop.mono ?_; rintro r w2 ⟨⟨rfl, hys, h4, h13⟩, hk2⟩; have H2 := hide (ai hys (ai h4 (ai h13 hk2))); clear hop hys h4 h13 hk2)
 obtain ⟨m, hm⟩ := nm (n - 4)
 have HK2 := hide (K0.tr H2.out.2.2.2)
 have hyl : ys.length = m := by rw [H2.out.1, List.length_take, H.out.len, <-hm]; omega
 have hm13 : m <= 131072 := by have := H2.out.2.2.1; omega
 have hsy : Sl w ao ys := by rw [H2.out.1]; exact H.out.sl.take _
 have HSB : Hid (ys ≠ [] -> ∀ a, ao = some a -> a.block < w.heap.size) := fun hne a ha => by
  obtain ⟨bb, off, e, hb, _⟩ := hsy.open hne
  rw [e] at ha; injection ha with ha; subst ha; exact hb
 have hbR := Tryz.builtR ao m cap
 have hrf := Rf.new (hsy.kept HK2.out (by simp)) hyl (by have := H.out.le; omega : m <= cap) (by omega)
 obtain ⟨b, hb⟩ := nm (w2.heap.size)
 have HRb : Hid (w.heap.size = R ∧ R < b) := ⟨HRW.out, by have := heap_ltS hr0; have := H2.out.2.2.2.size; omega⟩
 have hr2 := (H2.out.2.2.2.block R (heap_ltS hr0) (by simp)).trans hr0
 rw [hb] at hrf
 rw [hm]
 clear hm hr0 K0
 go_upto_region 5 with (refine wpList_buildRun8 rfl 79 #[(0, .tmp 17)] rfl #[(0, .slice ao m cap)] (by simp [Act.eval]) _ (hbR _) ?_)
 have k3 := ka w2 (.cells #[.slice ao m cap, .int .i64 0, .int .i64 0, .int .i64 0] 79)
 try rw [hb]
 have HS3 : Hid (Kept [] w (w2.alloc (.cells #[.slice ao m cap, .int .i64 0, .int .i64 0, .int .i64 0] 79)) ∧ (w2.alloc (.cells #[.slice ao m cap, .int .i64 0, .int .i64 0, .int .i64 0] 79)).heap[R]? = some (.cells zeroS 26 (0, 0))) := ⟨HK2.out.tr k3, (k3.block R (heap_ltS hr2) (by simp)).trans hr2⟩
 have hR3 : RfS (w2.alloc (.cells #[.slice ao m cap, .int .i64 0, .int .i64 0, .int .i64 0] 79)) b ao cap ys ⟨0, 0, 0⟩ := hrf
 clear hrf hr2 k3 hb hbR HK2 H2
 generalize w2.alloc (.cells #[.slice ao m cap, .int .i64 0, .int .i64 0, .int .i64 0] 79) = w3 at HS3 hR3 ⊢
 have htf := takefix_st hR3 1
 clear hR3
 rw [show (stFixed ys ⟨0, 0, 0⟩ 1).1 = mk ys from rfl, show (stFixed ys ⟨0, 0, 0⟩ 1).2 = Dlt.s1 ys from rfl, hmk] at htf
 clear hmk
 go_upto_region 7 with (go_at_call 33; refine htf.mono ?_; rintro r w4 ⟨rfl, hk4, hr4⟩; have H4 := hide (ai hk4 hr4); clear htf hk4 hr4)
 obtain ⟨D, hD⟩ := nm (w4.heap.size)
 have kd := ka w4 (.cells zeroS 26)
 have hdd0 : SigAt (w4.alloc (.cells zeroS 26)) D (gsY 0 0 0 (List.replicate 32 0) zl32) (.slice none 0 0) := ⟨by rw [<-hD]; exact heap_new w4 _⟩
 have HPS : Hid (w.heap.size = R ∧ R < b ∧ b < D) := ⟨HRb.out.1, HRb.out.2, by have := H4.out.2.lt; omega⟩
 have HS5 : Hid (Dst w (w4.alloc (.cells zeroS 26)) b R D (gsY 0 0 0 (List.replicate 32 0) zl32) (.slice none 0 0)) := by
  have hk34 : Kept [] w w4 := HS3.out.1.trans H4.out.1 (fun i hi hl => by simp only [List.mem_singleton] at hi; have := HRb.out; omega)
  have hr4 := (H4.out.1.block R (heap_ltS HS3.out.2) (by have := HRb.out; simp; omega)).trans HS3.out.2
  exact ⟨hk34.tr kd, (kd.block R (heap_ltS hr4) (by simp)).trans hr4, hdd0, HPS.out⟩
 have HR5 := hide (H4.out.2.kept kd (by simp) (by simp))
 clear HS3 hdd0 kd H4 HRb HRW
 go_upto_region 8 with (fail)
 try rw [hD]
 clear hD hz
 generalize w4.alloc (.cells zeroS 26) = w5 at HS5 HR5 ⊢
 have htn := takenum_st HR5.out
 rw [show (stNumber ys (Dlt.s1 ys)).1 = nW ys from rfl, show (stNumber ys (Dlt.s1 ys)).2 = Dlt.s2 ys from rfl] at htn
 go_upto_region 9 with (go_at_call 34; refine htn.mono ?_; rintro r x5 ⟨rfl, hkx, hrx⟩; have hSx := HS5.out.call hkx; have cX := hSx.dAt.cell (Sig.c0 _ _); have fX := hSx.dAt.fr 0; have HX := hide (ai hSx hrx); clear htn hkx hrx hSx)
 clear cX fX HS5 HR5
 have kx : Kept [D] x5 (x5.setCell ⟨D, 0, none⟩ (.int .i64 (nW ys))) := (Kept.refl [D] x5).setCell (by simp) _
 have HS6 : Hid (Dst w (x5.setCell ⟨D, 0, none⟩ (.int .i64 (nW ys))) b R D (gsY (nW ys) 0 0 (List.replicate 32 0) zl32) (.slice none 0 0)) := HX.out.1.put kx (HX.out.1.dAt.setW (nW ys))
 have HR6 := hide (HX.out.2.kept kx (by have := HPS.out; simp; omega) (fun hne a ha => by have := HSB.out hne a ha; have := HPS.out; simp; omega))
 clear HX kx
 generalize x5.setCell ⟨D, 0, none⟩ (.int .i64 (nW ys)) = w6 at HS6 HR6 ⊢
 have htn := takenum_st HR6.out
 rw [show (stNumber ys (Dlt.s2 ys)).1 = nZ ys from rfl, show (stNumber ys (Dlt.s2 ys)).2 = Dlt.s3 ys from rfl] at htn
 go_upto_region 10 with (go_at_call 34; refine htn.mono ?_; rintro r x6 ⟨rfl, hkx, hrx⟩; have hSx := HS6.out.call hkx; have cX := hSx.dAt.cell (Sig.c1 _ _); have fX := hSx.dAt.fr 1; have HX := hide (ai hSx hrx); clear htn hkx hrx hSx)
 clear cX fX HS6 HR6
 have kx : Kept [D] x6 (x6.setCell ⟨D, 1, none⟩ (.int .i64 (nZ ys))) := (Kept.refl [D] x6).setCell (by simp) _
 have HS7 : Hid (Dst w (x6.setCell ⟨D, 1, none⟩ (.int .i64 (nZ ys))) b R D (gsY (nW ys) (nZ ys) 0 (List.replicate 32 0) zl32) (.slice none 0 0)) := HX.out.1.put kx (HX.out.1.dAt.setZ (nZ ys))
 have HR7 := hide (HX.out.2.kept kx (by have := HPS.out; simp; omega) (fun hne a ha => by have := HSB.out hne a ha; have := HPS.out; simp; omega))
 clear HX kx
 generalize x6.setCell ⟨D, 1, none⟩ (.int .i64 (nZ ys)) = w7 at HS7 HR7 ⊢
 have htn := takenum_st HR7.out
 rw [show (stNumber ys (Dlt.s3 ys)).1 = nL ys from rfl, show (stNumber ys (Dlt.s3 ys)).2 = Dlt.s4 ys from rfl] at htn
 go_upto_region 11 with (go_at_call 34; refine htn.mono ?_; rintro r x7 ⟨rfl, hkx, hrx⟩; have hSx := HS7.out.call hkx; have cX := hSx.dAt.cell (Sig.c2 _ _); have fX := hSx.dAt.fr 2; have HX := hide (ai hSx hrx); clear htn hkx hrx hSx)
 clear cX fX HS7 HR7
 have kx : Kept [D] x7 (x7.setCell ⟨D, 2, none⟩ (.int .i64 (nL ys))) := (Kept.refl [D] x7).setCell (by simp) _
 have HS8 : Hid (Dst w (x7.setCell ⟨D, 2, none⟩ (.int .i64 (nL ys))) b R D (gsY (nW ys) (nZ ys) (nL ys) (List.replicate 32 0) zl32) (.slice none 0 0)) := HX.out.1.put kx (HX.out.1.dAt.setL (nL ys))
 have HR8 := hide (HX.out.2.kept kx (by have := HPS.out; simp; omega) (fun hne a ha => by have := HSB.out hne a ha; have := HPS.out; simp; omega))
 clear HX kx
 generalize x7.setCell ⟨D, 2, none⟩ (.int .i64 (nL ys)) = w8 at HS8 HR8 ⊢
 have cE := HR8.out.c2
 have c0 := HS8.out.dAt.cell (Sig.c0 _ _)
 have c1 := HS8.out.dAt.cell (Sig.c1 _ _)
 rw [show (gsY (nW ys) (nZ ys) (nL ys) (List.replicate 32 0) zl32).width = nW ys from rfl] at c0
 rw [show (gsY (nW ys) (nZ ys) (nL ys) (List.replicate 32 0) zl32).size = nZ ys from rfl] at c1
 have hsz := rsized_ok (nW ys) (nZ ys) w8
 obtain ⟨e4, he4⟩ := nm ((Dlt.s4 ys).e)
 rw [he4] at cE hbad
 clear he4
 by_cases hE : e4 = 0
 ·have hE1 : (e4 != 0) = false := by simpa using hE
  cases hs : (isW (nW ys) && isZ (nZ ys)) with
  | true => exact absurd ⟨hE, hs⟩ hbad
  | false =>
   rw [hs] at hsz
   clear hbad hE hs
   generalize nW ys = xW at *
   generalize nZ ys = xZ at *
   generalize nL ys = xL at *
   go_upto_region 12 with (go_at_call 35; refine hsz.mono ?_; rintro r w' ⟨rfl, hw⟩; obtain rfl := hw.symm; clear hsz)
   have hrR := HS8.out.rAt
   have HKZ : Hid (Kept [] w (w8.setRow R zeroS)) := HS8.out.kept.trans (kept_row _ _ _) (fun i hi hl => by simp only [List.mem_singleton] at hi; have := HPS.out; omega)
   clear HS8 HR8 cE c0 c1 hE1
   have hbz := Tryz.builtSigZ
   have hiD : (Tryz.prog.info? 26).map (·.size) = some zeroS.size := Tryz.infoSigA sig0 (.slice none 0 0)
   have haD : zeroS.all (·.oneCell') = true := sig_one sig0 _ rfl
   have hrow : (w8.setRow R zeroS).heap[R]? = some (.cells zeroS 26 (0, 0)) := setRow_heap _ _ _ _ _ _ hrR
   go_wp2_with (first
    | refine wpList_buildRun8 rfl 26 #[] rfl #[] (by simp) _ (hbz _) ?_
    | refine wpList_store_rowTo rfl 26 (.tmp 2) (.tmp 46) rfl rfl R zeroS rfl rfl 26 zeroS hrR hiD rfl haD ?_)
   refine ret_row_slot rfl rfl R 26 _ (0, 0) _ rfl hrow Tryz.underlying26 rfl hiD ?_
   exact ⟨DecE.zero _ _ HNO.out, HKZ.out⟩
 ·have hE1 : (e4 != 0) = true := by simpa using hE
  clear hbad hE hsz
  generalize nW ys = xW at *
  generalize nZ ys = xZ at *
  generalize nL ys = xL at *
  go_upto_region 12 with (fail)
  have hrR := HS8.out.rAt
  have HKZ : Hid (Kept [] w (w8.setRow R zeroS)) := HS8.out.kept.trans (kept_row _ _ _) (fun i hi hl => by simp only [List.mem_singleton] at hi; have := HPS.out; omega)
  clear HS8 HR8 cE c0 c1 hE1
  have hbz := Tryz.builtSigZ
  have hiD : (Tryz.prog.info? 26).map (·.size) = some zeroS.size := Tryz.infoSigA sig0 (.slice none 0 0)
  have haD : zeroS.all (·.oneCell') = true := sig_one sig0 _ rfl
  have hrow : (w8.setRow R zeroS).heap[R]? = some (.cells zeroS 26 (0, 0)) := setRow_heap _ _ _ _ _ _ hrR
  go_wp2_with (first
   | refine wpList_buildRun8 rfl 26 #[] rfl #[] (by simp) _ (hbz _) ?_
   | refine wpList_store_rowTo rfl 26 (.tmp 2) (.tmp 46) rfl rfl R zeroS rfl rfl 26 zeroS hrR hiD rfl haD ?_)
  refine ret_row_slot rfl rfl R 26 _ (0, 0) _ rfl hrow Tryz.underlying26 rfl hiD ?_
  exact ⟨DecE.zero _ _ HNO.out, HKZ.out⟩
theorem own_lenW {w : World} {base : Nat} {ao : Option Addr} {n cap : Nat} {L : List Wk} (h : OwnW w base (.slice ao n cap) L) : L.length = n := by
 obtain ⟨_, _, e, _⟩ := OwnW.wks h
 injection e with _ e _
 exact e.symm
theorem rdec_loop (ao : Option Addr) (n cap : Nat) (xs : List UInt8) (w : World) (h : InB8 w ao n cap xs) (dd : Option Sig) (ys : List UInt8) (ho : openB xs = some ys) (hmk : mk ys = 83) (hok : (Dlt.s4 ys).e = 0 ∧ (isW (nW ys) && isZ (nZ ys)) = true) (hhd : rheadS ys = true) (hdd : dd = decS xs) :
  Calls Tryz.prog 53 #[.slice ao n cap] w fun e w' => DecE w w' e dd ∧ Kept [] w w' := by
 have HHD := hide hhd
 have HOP := hide ho
 have HDD := hide hdd
 clear hhd hdd
 have hz := Tryz.zeroSig
 have K0 := ka w (.cells zeroS 26)
 have hr0 := heap_new w (.cells zeroS 26)
 have hop := ropened_ok ao n cap xs _ (h.kept K0)
 rw [ho] at hop
 have H := hide h
 obtain ⟨R, hR⟩ := nm (w.heap.size)
 rw [hR] at hr0
 have HRW := hide hR
 clear h ho
 go_enter Tryz.func53, Tryz.ntmps53
 go_upto_region 1 with (fail)
 try rw [hR]
 clear hR
 generalize w.alloc (.cells zeroS 26) = w1 at *
 go_upto_region 4 with (go_at_call 32; refine hop.mono ?_; rintro r w2 ⟨⟨rfl, hys, h4, h13⟩, hk2⟩; have H2 := hide (ai hys (ai h4 (ai h13 hk2))); clear hop hys h4 h13 hk2)
 obtain ⟨m, hm⟩ := nm (n - 4)
 have HK2 := hide (K0.tr H2.out.2.2.2)
 have hyl : ys.length = m := by rw [H2.out.1, List.length_take, H.out.len, <-hm]; omega
 have hm13 : m <= 131072 := by have := H2.out.2.2.1; omega
 have hsy : Sl w ao ys := by rw [H2.out.1]; exact H.out.sl.take _
 have HSB : Hid (ys ≠ [] -> ∀ a, ao = some a -> a.block < w.heap.size) := fun hne a ha => by
  obtain ⟨bb, off, e, hb, _⟩ := hsy.open hne
  rw [e] at ha; injection ha with ha; subst ha; exact hb
 have hbR := Tryz.builtR ao m cap
 have hrf := Rf.new (hsy.kept HK2.out (by simp)) hyl (by have := H.out.le; omega : m <= cap) (by omega)
 obtain ⟨b, hb⟩ := nm (w2.heap.size)
 have HRb : Hid (w.heap.size = R ∧ R < b) := ⟨HRW.out, by have := heap_ltS hr0; have := H2.out.2.2.2.size; omega⟩
 have hr2 := (H2.out.2.2.2.block R (heap_ltS hr0) (by simp)).trans hr0
 rw [hb] at hrf
 rw [hm]
 clear hm hr0 K0
 go_upto_region 5 with (refine wpList_buildRun8 rfl 79 #[(0, .tmp 17)] rfl #[(0, .slice ao m cap)] (by simp [Act.eval]) _ (hbR _) ?_)
 have k3 := ka w2 (.cells #[.slice ao m cap, .int .i64 0, .int .i64 0, .int .i64 0] 79)
 try rw [hb]
 have HS3 : Hid (Kept [] w (w2.alloc (.cells #[.slice ao m cap, .int .i64 0, .int .i64 0, .int .i64 0] 79)) ∧ (w2.alloc (.cells #[.slice ao m cap, .int .i64 0, .int .i64 0, .int .i64 0] 79)).heap[R]? = some (.cells zeroS 26 (0, 0))) := ⟨HK2.out.tr k3, (k3.block R (heap_ltS hr2) (by simp)).trans hr2⟩
 have hR3 : RfS (w2.alloc (.cells #[.slice ao m cap, .int .i64 0, .int .i64 0, .int .i64 0] 79)) b ao cap ys ⟨0, 0, 0⟩ := hrf
 clear hrf hr2 k3 hb hbR HK2 H2
 generalize w2.alloc (.cells #[.slice ao m cap, .int .i64 0, .int .i64 0, .int .i64 0] 79) = w3 at HS3 hR3 ⊢
 have htf := takefix_st hR3 1
 clear hR3
 rw [show (stFixed ys ⟨0, 0, 0⟩ 1).1 = mk ys from rfl, show (stFixed ys ⟨0, 0, 0⟩ 1).2 = Dlt.s1 ys from rfl, hmk] at htf
 clear hmk
 go_upto_region 7 with (go_at_call 33; refine htf.mono ?_; rintro r w4 ⟨rfl, hk4, hr4⟩; have H4 := hide (ai hk4 hr4); clear htf hk4 hr4)
 obtain ⟨D, hD⟩ := nm (w4.heap.size)
 have kd := ka w4 (.cells zeroS 26)
 have hdd0 : SigAt (w4.alloc (.cells zeroS 26)) D (gsY 0 0 0 (List.replicate 32 0) zl32) (.slice none 0 0) := ⟨by rw [<-hD]; exact heap_new w4 _⟩
 have HPS : Hid (w.heap.size = R ∧ R < b ∧ b < D) := ⟨HRb.out.1, HRb.out.2, by have := H4.out.2.lt; omega⟩
 have HS5 : Hid (Dst w (w4.alloc (.cells zeroS 26)) b R D (gsY 0 0 0 (List.replicate 32 0) zl32) (.slice none 0 0)) := by
  have hk34 : Kept [] w w4 := HS3.out.1.trans H4.out.1 (fun i hi hl => by simp only [List.mem_singleton] at hi; have := HRb.out; omega)
  have hr4 := (H4.out.1.block R (heap_ltS HS3.out.2) (by have := HRb.out; simp; omega)).trans HS3.out.2
  exact ⟨hk34.tr kd, (kd.block R (heap_ltS hr4) (by simp)).trans hr4, hdd0, HPS.out⟩
 have HR5 := hide (H4.out.2.kept kd (by simp) (by simp))
 clear HS3 hdd0 kd H4 HRb HRW
 go_upto_region 8 with (fail)
 try rw [hD]
 clear hD hz
 generalize w4.alloc (.cells zeroS 26) = w5 at HS5 HR5 ⊢
 have htn := takenum_st HR5.out
 rw [show (stNumber ys (Dlt.s1 ys)).1 = nW ys from rfl, show (stNumber ys (Dlt.s1 ys)).2 = Dlt.s2 ys from rfl] at htn
 go_upto_region 9 with (go_at_call 34; refine htn.mono ?_; rintro r x5 ⟨rfl, hkx, hrx⟩; have hSx := HS5.out.call hkx; have cX := hSx.dAt.cell (Sig.c0 _ _); have fX := hSx.dAt.fr 0; have HX := hide (ai hSx hrx); clear htn hkx hrx hSx)
 clear cX fX HS5 HR5
 have kx : Kept [D] x5 (x5.setCell ⟨D, 0, none⟩ (.int .i64 (nW ys))) := (Kept.refl [D] x5).setCell (by simp) _
 have HS6 : Hid (Dst w (x5.setCell ⟨D, 0, none⟩ (.int .i64 (nW ys))) b R D (gsY (nW ys) 0 0 (List.replicate 32 0) zl32) (.slice none 0 0)) := HX.out.1.put kx (HX.out.1.dAt.setW (nW ys))
 have HR6 := hide (HX.out.2.kept kx (by have := HPS.out; simp; omega) (fun hne a ha => by have := HSB.out hne a ha; have := HPS.out; simp; omega))
 clear HX kx
 generalize x5.setCell ⟨D, 0, none⟩ (.int .i64 (nW ys)) = w6 at HS6 HR6 ⊢
 have htn := takenum_st HR6.out
 rw [show (stNumber ys (Dlt.s2 ys)).1 = nZ ys from rfl, show (stNumber ys (Dlt.s2 ys)).2 = Dlt.s3 ys from rfl] at htn
 go_upto_region 10 with (go_at_call 34; refine htn.mono ?_; rintro r x6 ⟨rfl, hkx, hrx⟩; have hSx := HS6.out.call hkx; have cX := hSx.dAt.cell (Sig.c1 _ _); have fX := hSx.dAt.fr 1; have HX := hide (ai hSx hrx); clear htn hkx hrx hSx)
 clear cX fX HS6 HR6
 have kx : Kept [D] x6 (x6.setCell ⟨D, 1, none⟩ (.int .i64 (nZ ys))) := (Kept.refl [D] x6).setCell (by simp) _
 have HS7 : Hid (Dst w (x6.setCell ⟨D, 1, none⟩ (.int .i64 (nZ ys))) b R D (gsY (nW ys) (nZ ys) 0 (List.replicate 32 0) zl32) (.slice none 0 0)) := HX.out.1.put kx (HX.out.1.dAt.setZ (nZ ys))
 have HR7 := hide (HX.out.2.kept kx (by have := HPS.out; simp; omega) (fun hne a ha => by have := HSB.out hne a ha; have := HPS.out; simp; omega))
 clear HX kx
 generalize x6.setCell ⟨D, 1, none⟩ (.int .i64 (nZ ys)) = w7 at HS7 HR7 ⊢
 have htn := takenum_st HR7.out
 rw [show (stNumber ys (Dlt.s3 ys)).1 = nL ys from rfl, show (stNumber ys (Dlt.s3 ys)).2 = Dlt.s4 ys from rfl] at htn
 go_upto_region 11 with (go_at_call 34; refine htn.mono ?_; rintro r x7 ⟨rfl, hkx, hrx⟩; have hSx := HS7.out.call hkx; have cX := hSx.dAt.cell (Sig.c2 _ _); have fX := hSx.dAt.fr 2; have HX := hide (ai hSx hrx); clear htn hkx hrx hSx)
 clear cX fX HS7 HR7
 have kx : Kept [D] x7 (x7.setCell ⟨D, 2, none⟩ (.int .i64 (nL ys))) := (Kept.refl [D] x7).setCell (by simp) _
 have HS8 : Hid (Dst w (x7.setCell ⟨D, 2, none⟩ (.int .i64 (nL ys))) b R D (gsY (nW ys) (nZ ys) (nL ys) (List.replicate 32 0) zl32) (.slice none 0 0)) := HX.out.1.put kx (HX.out.1.dAt.setL (nL ys))
 have HR8 := hide (HX.out.2.kept kx (by have := HPS.out; simp; omega) (fun hne a ha => by have := HSB.out hne a ha; have := HPS.out; simp; omega))
 clear HX kx
 generalize x7.setCell ⟨D, 2, none⟩ (.int .i64 (nL ys)) = w8 at HS8 HR8 ⊢
 have cE := HR8.out.c2
 have c0 := HS8.out.dAt.cell (Sig.c0 _ _)
 have c1 := HS8.out.dAt.cell (Sig.c1 _ _)
 rw [show (gsY (nW ys) (nZ ys) (nL ys) (List.replicate 32 0) zl32).width = nW ys from rfl] at c0
 rw [show (gsY (nW ys) (nZ ys) (nL ys) (List.replicate 32 0) zl32).size = nZ ys from rfl] at c1
 have hsz := rsized_ok (nW ys) (nZ ys) w8
 obtain ⟨hE0, hsd⟩ := hok
 have hsd2 := hsd
 rw [Bool.and_eq_true, isW, isZ, Dlt.within_iff, Dlt.within_iff] at hsd2
 obtain ⟨W, hWn⟩ := Int.eq_ofNat_of_zero_le (show 0 <= nW ys by omega)
 have HW32 : Hid (W <= 32) := by show _ <= _; omega
 have HWN := hide hWn
 rw [hsd] at hsz
 rw [hWn] at hsz c0
 rw [hE0] at cE
 have HE0 := hide hE0
 clear hE0 hsd hsd2
 have HS8 : Hid (Dst w w8 b R D (gsY (W : Int) (nZ ys) (nL ys) (List.replicate 32 0) zl32) (.slice none 0 0)) := by rw [<-hWn]; exact HS8.out
 clear hWn
 obtain ⟨xZ, hxZ⟩ := nm (nZ ys)
 obtain ⟨xL, hxL⟩ := nm (nL ys)
 rw [hxZ] at HS8 c1 hsz
 rw [hxL] at HS8
 have HXZ := hide hxZ
 have HXL := hide hxL
 clear hxZ hxL
 go_upto_region 13 with (go_at_call 35; refine hsz.mono ?_; rintro r w' ⟨rfl, hw⟩; obtain rfl := hw.symm; clear hsz)
 clear cE c0 c1
 obtain ⟨rb, hrb⟩ := nm ((stRaw ys (Dlt.s4 ys) (W : Nat)).1)
 obtain ⟨rn, hrn⟩ := nm (rb.length)
 obtain ⟨I, hI⟩ := nm (pad rb)
 have hIl : I.length = 32 := by rw [<-hI]; exact pad_len _
 have HI : Hid (idB ys = I) := by show _ = _; unfold idB; rw [HWN.out, hrb, hI]
 have hr32 : rn <= 32 := by rw [<-hrn, <-hrb]; exact Nat.le_trans (raw_len ys (Dlt.s4 ys) W) HW32.out
 have htr := takeraw_st HR8.out (W : Nat)
 rw [hrb, show (stRaw ys (Dlt.s4 ys) (W : Nat)).2 = Dlt.sB ys by unfold Dlt.sB; rw [HWN.out]] at htr
 have HRN := hide hrn
 have HPI := hide hI
 have cw : w8.cell? ⟨D, 0, none⟩ = some (.int .i64 (W : Int)) := HS8.out.dAt.cell (Sig.c0 _ _)
 have hii : (Tryz.prog.info? 23).map (·.size) = some (bys I).toArray.size := by rw [List.size_toArray]; exact idlen hIl
 have hib := bys_all I
 have hsz32 : (bys I).toArray.size = 32 := by rw [List.size_toArray, bys_length, hIl]
 clear hrb hrn hI
 go_wp2_with (first
  | (go_at_call 37; refine htr.mono ?_; rintro r x8 ⟨⟨ro, rc, rfl, hfr⟩, hkx, hrx⟩; rw [HRN.out]; have hwh := rwhole_ok ro rn rc rb x8 HRN.out (by omega) hfr.1; rw [HPI.out] at hwh; have HX := hide (ai (HS8.out.call hkx) hrx); clear htr hkx hrx hfr)
  | (go_at_call 36; refine hwh.mono ?_; rintro r y8 ⟨rfl, hky⟩; have hSy := HX.out.1.move hky (by simp); have hth := hSy.dAt.thereB; have HY := hide (ai hSy (HX.out.2.kept hky (by simp) (by simp))); clear hwh hky hSy HX)
  | refine wpList_store_mid rfl 23 (.tmp 52) (.tmp 51) rfl D 3 (bys I).toArray rfl rfl (by rw [hsz32]; exact hth) hii hib ?_)
 clear hth hii hib hsz32 cw HS8 HR8 HRN HPI hr32
 have kx : Kept [D] y8 (y8.setCells D 3 (bys I)) := kept_setCells _ _ _ _ _ (Kept.refl _ _) (by simp)
 have HS9 : Hid (Dst w (y8.setCells D 3 (bys I)) b R D (gsY (W : Int) xZ xL I hIl) (.slice none 0 0)) := HY.out.1.put kx (HY.out.1.dAt.setB I hIl)
 have HR9 := hide (HY.out.2.kept kx (by have := HPS.out; simp; omega) (fun hne a ha => by have := HSB.out hne a ha; have := HPS.out; simp; omega))
 clear HY kx
 generalize y8.setCells D 3 (bys I) = w9 at HS9 HR9 ⊢
 obtain ⟨B, hB⟩ := nm (w9.heap.size)
 have HDB : Hid (w.heap.size = R ∧ R < b ∧ b < D ∧ D < B) := ⟨HPS.out.1, HPS.out.2.1, HPS.out.2.2, by rw [<-hB]; exact HS9.out.dAt.lt⟩
 obtain ⟨N, hN⟩ := nm (ys.length)
 have hN13 : N <= 131072 := by rw [<-hN, hyl]; exact hm13
 have HNY := hide hN
 clear hN
 have HIN : Hid (∃ k v, RfS w9 b ao cap ys (rdWs ys (W : Nat) (Dlt.sB ys) k).2 ∧ Dst w w9 b R D (gsY (W : Int) xZ xL I hIl) v ∧ OwnW w9 B v (rdWs ys (W : Nat) (Dlt.sB ys) k).1 ∧ B <= w9.heap.size ∧ k <= (rdWs ys (W : Nat) (Dlt.sB ys) k).2.at_ + 1 ∧ ((rdWs ys (W : Nat) (Dlt.sB ys) k).2.e = 0 -> k <= (rdWs ys (W : Nat) (Dlt.sB ys) k).2.at_) ∧ ∀ j, j < k -> (rdWs ys (W : Nat) (Dlt.sB ys) j).2.e = 0 ∧ stLeft ys (rdWs ys (W : Nat) (Dlt.sB ys) j).2 ≠ 0) := ⟨0, .slice none 0 0, HR9.out, HS9.out, World.ownsRow_nil _ _ _ _, by rw [hB]; exact Nat.le_refl _, by omega, fun _ => by omega, fun j hj => by omega⟩
 clear HS9 HR9 hB
 go_frame
 go_loopw [] (fun wr => Hid (∃ k v, RfS wr b ao cap ys (rdWs ys (W : Nat) (Dlt.sB ys) k).2 ∧ Dst w wr b R D (gsY (W : Int) xZ xL I hIl) v ∧ OwnW wr B v (rdWs ys (W : Nat) (Dlt.sB ys) k).1 ∧ B <= wr.heap.size ∧ k <= (rdWs ys (W : Nat) (Dlt.sB ys) k).2.at_ + 1 ∧ ((rdWs ys (W : Nat) (Dlt.sB ys) k).2.e = 0 -> k <= (rdWs ys (W : Nat) (Dlt.sB ys) k).2.at_) ∧ ∀ j, j < k -> (rdWs ys (W : Nat) (Dlt.sB ys) j).2.e = 0 ∧ stLeft ys (rdWs ys (W : Nat) (Dlt.sB ys) j).2 ≠ 0)) (fun wr => rmeas wr b N)
 case atStart => exact HIN
 case round =>
  clear HIN
  obtain ⟨k, v, hR, hS, hO, hBs, hk1, hk2, hwas⟩ := hrel.out
  clear hrel
  have hstop : ((rdWs ys (W : Nat) (Dlt.sB ys) k).2.e = 0 -> stLeft ys (rdWs ys (W : Nat) (Dlt.sB ys) k).2 = 0) -> StopS ys k := fun hh => ⟨by rw [HWN.out]; exact hwas, by rw [HWN.out]; exact hh⟩
  have hms := hR.meas N
  have hat := hR.le
  rw [HNY.out] at hat
  have hlen := rdWs_len ys (W : Nat) (Dlt.sB ys) k
  have cE := hR.c2
  obtain ⟨e5, he5⟩ := nm ((rdWs ys (W : Nat) (Dlt.sB ys) k).2.e)
  have hblk : (rsigOf ys k) = ⟨(W : Int), xZ, xL, I, (rdWs ys (W : Nat) (Dlt.sB ys) k).1, hIl⟩ := Sig.ext' HWN.out HXZ.out HXL.out HI.out (by show (rdWs ys (nW ys) (Dlt.sB ys) k).1 = _; rw [HWN.out])
  rw [he5] at cE
  by_cases hE : e5 = 0
  ·subst hE
   have hlf0 := refleft_st hR
   obtain ⟨lf, hlf⟩ := nm (stLeft ys (rdWs ys (W : Nat) (Dlt.sB ys) k).2)
   rw [hlf] at hlf0
   have hlg : 0 <= lf := by rw [<-hlf]; exact stLeft_ge _ _
   by_cases hl0 : lf = 0
   ·have HST := hide (hstop (fun _ => by rw [hlf]; exact hl0))
    subst hl0
    obtain ⟨vo, vc, rfl, hvc⟩ := own_shape hO
    obtain ⟨q, hq⟩ := nm ((rdWs ys (W : Nat) (Dlt.sB ys) k).1.length)
    rw [hq] at hS hvc
    have hO : OwnW wr B (.slice vo q vc) (rdWs ys (W : Nat) (Dlt.sB ys) k).1 := by have h := hO; rw [hq] at h; exact h
    obtain ⟨sg, hsg⟩ : ∃ sg : Sig, (⟨(W : Int), xZ, xL, I, (rdWs ys (W : Nat) (Dlt.sB ys) k).1, hIl⟩ : Sig) = sg := ⟨_, rfl⟩
    have hA : SigAt wr D sg (.slice vo q vc) := by rw [<-hsg]; exact ⟨hS.dAt.row⟩
    have hsb : sg.blocks = (rdWs ys (W : Nat) (Dlt.sB ys) k).1 := by rw [<-hsg]
    have HSI := hide (fun X (hX : Kept [] wr X) => show SigIn X sg vo q vc by
     obtain ⟨ao2, cap2, e2, h2, h3, _, h4⟩ := OwnW.wks hO
     injection e2 with e21 e22 e23
     subst e21 e23
     exact ⟨by rw [hsb]; exact hq, hvc, h4, by rw [hsb]; exact h3.kept hX (by simp)⟩)
    have HAA := hide hA
    have HOO := hide hO
    have HSB2 := hide hsb
    have HRR := hide hS.rAt
    have HKK := hide hS.kept
    have HDD2 : Hid (rsigOf ys k = sg) := by show _ = _; rw [hblk, hsg]
    have HE5 := hide he5
    clear hA hO hS hR hstop hms hat hlen hblk hwas hk1 hk2 hsg hsb hq hvc hlf hBs he5
    go_upto_region 17 with (go_at_call 39; refine hlf0.mono ?_; rintro r wl ⟨rfl, nl, hwl⟩; have HKL := hide (show Kept [] wr wl by rw [hwl]; exact (Kept.refl _ _).drewN nl); clear hlf0 hwl)
    have cE2 := HKL.out.cellOf cE (by simp)
    have hrz := (HAA.out.kept HKL.out (by simp)).range
    have hil := Tryz.infoSig sg (.slice vo q vc)
    have hmy := rmay_ok sg vo q vc wl (HSI.out wl HKL.out)
    clear cE HSI
    cases hm : may sg with
    | true =>
     rw [hm] at hmy
     have HFN : Hid (dd = some sg) := by
      show _ = _
      rw [HDD.out, <-HDD2.out]
      exact decS_yes HOP.out HHD.out HST.out (by rw [HWN.out]; exact HE5.out) (by rw [HDD2.out]; exact hm)
     clear hm
     go_upto_region 19 with (first
      | refine wpList_load_midW 26 (.tmp 7) rfl D 0 rfl (sg.cells (.slice vo q vc)) _ hrz Tryz.underlying26 rfl hil (by kernel_rfl) ?_
      | (go_at_call 59; refine hmy.mono ?_; rintro r wm ⟨rfl, hkm⟩; have HKM := hide (HKL.out.tr hkm); clear hmy hkm))
     have hrz2 := (HAA.out.kept HKM.out (by simp)).range
     have hrR := (HKM.out.block R (heap_ltS HRR.out) (by simp)).trans HRR.out
     have hia := Tryz.infoSigA sg (.slice vo q vc)
     have hzs : zeroS.size = (sg.cells (.slice vo q vc)).toArray.size := by rw [sig_size]; exact sig_size _ _
     have hal := sig_one sg (.slice vo q vc) rfl
     have hkR : Kept [R] wm (wm.setRow R (sg.cells (.slice vo q vc)).toArray) := kept_row wm R _
     have HFI : Hid (TellS w (wm.setRow R (sg.cells (.slice vo q vc)).toArray) (.returned (.tuple #[.agg (sg.cells (.slice vo q vc)).toArray, .int .i64 0])) 0 sg ∧ Kept [] w (wm.setRow R (sg.cells (.slice vo q vc)).toArray)) := by
      refine ⟨⟨.slice vo q vc, rfl, ?_⟩, (HKK.out.tr HKM.out).trans hkR (fun i hi hl => by simp only [List.mem_singleton] at hi; have := HDB.out; omega)⟩
      rw [HSB2.out]
      exact own_base (OwnW.kept (OwnW.kept HOO.out HKM.out (by simp)) hkR (fun g hg => by have := (own_blk HOO.out hg).1; have := HDB.out; simp; omega)) (by have := HDB.out; omega)
     clear hrz hkR cE2
     go_wp2_with (first
      | refine wpList_load_mid rfl 26 (.tmp 7) rfl D 0 rfl (sg.cells (.slice vo q vc)) _ hrz2 Tryz.underlying26 rfl hil ?_
      | refine wpList_store_rowTo rfl 26 (.tmp 2) (.tmp 88) rfl rfl R (sg.cells (.slice vo q vc)).toArray rfl rfl 26 zeroS hrR hia hzs hal ?_)
     refine ret_row_slot rfl rfl R 26 (sg.cells (.slice vo q vc)).toArray (0, 0) _ rfl (setRow_heap _ _ _ _ _ _ hrR) Tryz.underlying26 rfl hia ?_
     rw [HFN.out]
     exact HFI.out
    | false =>
     rw [hm] at hmy
     have HNO : Hid (dd = none) := by
      show _ = _
      rw [HDD.out]
      exact decS_no HOP.out HST.out (fun hh => by rw [HDD2.out, hm] at hh; cases hh.2)
     clear hm
     go_upto_region 18 with (first
      | refine wpList_load_midW 26 (.tmp 7) rfl D 0 rfl (sg.cells (.slice vo q vc)) _ hrz Tryz.underlying26 rfl hil (by kernel_rfl) ?_
      | (go_at_call 59; refine hmy.mono ?_; rintro r wm ⟨rfl, hkm⟩; have HKM := hide (HKL.out.tr hkm); clear hmy hkm))
     have hrR := (HKM.out.block R (heap_ltS HRR.out) (by simp)).trans HRR.out
     have HKZ : Hid (Kept [] w (wm.setRow R zeroS)) := (HKK.out.tr HKM.out).trans (kept_row _ _ _) (fun i hi hl => by simp only [List.mem_singleton] at hi; have := HDB.out; omega)
     clear hrz hil cE2
     have hbz := Tryz.builtSigZ
     have hiD : (Tryz.prog.info? 26).map (·.size) = some zeroS.size := Tryz.infoSigA sig0 (.slice none 0 0)
     have haD : zeroS.all (·.oneCell') = true := sig_one sig0 _ rfl
     have hrow : (wm.setRow R zeroS).heap[R]? = some (.cells zeroS 26 (0, 0)) := setRow_heap _ _ _ _ _ _ hrR
     go_wp2_with (first
      | refine wpList_buildRun8 rfl 26 #[] rfl #[] (by simp) _ (hbz _) ?_
      | refine wpList_store_rowTo rfl 26 (.tmp 2) (.tmp 87) rfl rfl R zeroS rfl rfl 26 zeroS hrR hiD rfl haD ?_)
     refine ret_row_slot rfl rfl R 26 _ (0, 0) _ rfl hrow Tryz.underlying26 rfl hiD ?_
     exact ⟨DecE.zero _ _ HNO.out, HKZ.out⟩
   ·have hlp : 0 < lf := by omega
    have HNX : Hid (rdWs ys (W : Nat) (Dlt.sB ys) (k + 1) = ((rdWs ys (W : Nat) (Dlt.sB ys) k).1 ++ [(rdW ys (W : Nat) (rdWs ys (W : Nat) (Dlt.sB ys) k).2).1], (rdW ys (W : Nat) (rdWs ys (W : Nat) (Dlt.sB ys) k).2).2)) := rfl
    have HWAS : Hid (∀ j, j < k + 1 -> (rdWs ys (W : Nat) (Dlt.sB ys) j).2.e = 0 ∧ stLeft ys (rdWs ys (W : Nat) (Dlt.sB ys) j).2 ≠ 0) := fun j hj => by
     by_cases h : j = k
     ·subst h; exact ⟨he5, by rw [hlf]; exact hl0⟩
     ·exact hwas j (by omega)
    obtain ⟨sk, hsk⟩ := nm ((rdWs ys (W : Nat) (Dlt.sB ys) k).2)
    obtain ⟨Lk, hLk⟩ := nm ((rdWs ys (W : Nat) (Dlt.sB ys) k).1)
    rw [hsk] at hR he5 hk2 hms hat HNX
    rw [hLk] at hO hlen HNX
    have hadv := rdW_at (xs := ys) (W := W) he5
    obtain ⟨ek, hek⟩ := nm ((rdW ys (W : Nat) sk).1)
    obtain ⟨sk', hsk'⟩ : ∃ sk', (rdW ys (W : Nat) sk).2 = sk' := ⟨_, rfl⟩
    rw [hek, hsk'] at HNX
    rw [hsk'] at hadv
    obtain ⟨sm, hsm⟩ := nm ((stFixed ys sk 4).1)
    obtain ⟨s1, hs1⟩ := nm ((stFixed ys sk 4).2)
    obtain ⟨rb2, hrb2⟩ := nm ((stRaw ys s1 (W : Nat)).1)
    have hrl : rb2.length <= 32 := by rw [<-hrb2]; exact Nat.le_trans (raw_len ys s1 W) HW32.out
    have hraw2 : (stRaw ys s1 (W : Nat)).2 = sk' := by rw [<-hsk', <-hs1]; rfl
    have hes : ek.sum = sm := by rw [<-hek, <-hsm]; rfl
    have hei : ek.id = pad rb2 := by rw [<-hek, <-hrb2, <-hs1]; rfl
    obtain ⟨vo, vc, rfl, hvc⟩ := own_shape hO
    have hlen2 : Lk.length = k := hlen
    rw [hlen2] at hS hvc
    have hO : OwnW wr B (.slice vo k vc) Lk := by have h := hO; rw [hlen2] at h; exact h
    have HMS : Hid (rmeas wr b N = N + 1 - sk.at_) := by show _ = _; rw [hms, if_pos he5]
    have HK : Hid (k <= 131072 ∧ sk.at_ <= N) := ⟨by have := hk2 he5; omega, hat⟩
    have HAD := hide (ai (hk2 he5) hadv)
    have HRb := hide hR
    have HSb := hide hS
    have HOb := hide hO
    have HBb := hide hBs
    clear hR hS hO hBs hk1 hk2 hwas hstop hms hat hlen hblk hsk hLk hadv hvc hlf hl0 hlg he5
    go_upto_region 15 with (go_at_call 39; refine hlf0.mono ?_; rintro r wl ⟨rfl, nl, hwl⟩; have HKL := hide (show Kept [] wr wl by rw [hwl]; exact (Kept.refl _ _).drewN nl); clear hlf0 hwl)
    have htf := takefix_st (HRb.out.kept HKL.out (by simp) (by simp)) 4
    rw [hsm, hs1] at htf
    clear cE hsm hs1
    go_upto_region 16 with (go_at_call 33; refine htf.mono ?_; rintro r wf ⟨rfl, hkf, hrf⟩; have HF := hide (ai (HKL.out.mono (by simp) |>.tr hkf : Kept [b] wr wf) hrf); clear htf hkf hrf)
    have hSf := HSb.out.call HF.out.1
    have hOf := HOb.out.kept HF.out.1 (fun g hg => by have := (own_blk HOb.out hg).1; have := HDB.out; simp; omega)
    have cv := hSf.dAt.cell (Sig.cv _ _)
    have cW : wf.cell? ⟨D, 0, none⟩ = some (.int .i64 (W : Int)) := hSf.dAt.cell (Sig.c0 _ _)
    have hrf : RfS (World.drew wf) b ao cap ys s1 := HF.out.2.drewN 1
    have HBf : Hid (B <= wf.heap.size) := Nat.le_trans HBb.out HF.out.1.size
    have hbw : ∀ X, (Instr.build 62 #[(0, .int .i64 sm), (1, .agg (bys (pad rb2)).toArray)]).run Tryz.prog X = .ok (.agg ek.cells.toArray) X := fun X => by rw [<-hes, <-hei]; exact Tryz.builtWk ek X
    have hbsl := Tryz.builtW1 ek
    have HPL : Hid (pad rb2 = ek.id) := hei.symm
    obtain ⟨rn2, hrn2⟩ := nm (rb2.length)
    have HRN2 := hide hrn2
    rw [hrn2] at hrl
    have htr : ∀ X, RfS X b ao cap ys s1 -> Calls Tryz.prog 37 #[.pointer (some ⟨b, 0, none⟩), .int .i64 (W : Int)] X fun e' w' => RowEnd X w' e' rb2 ∧ Kept [b] X w' ∧ RfS w' b ao cap ys sk' := fun X hX => by have h := takeraw_st hX (W : Nat); rw [hrb2, hraw2] at h; exact h
    have HTR := hide htr
    have HND : Hid (D ∉ [b]) := by have := HDB.out; show D ∉ [b]; simp; omega
    have HSf := hide hSf
    have HOf := hide hOf
    clear htr hSf hOf hrb2 hraw2 hes hei hek hsk' hrn2 hlen2
    refine wp_region_late (fun w' => Kept [b] wf w') (fun i => i == 10 || i == 12) (by kernel_rfl) ?_
    have h0 : Kept [b] wf wf.drew := (Kept.refl [b] wf).drew
    generalize World.drew wf = v0 at h0 hrf ⊢
    have k0 := h0
    refine wpAnyL_free (i := 0) (v := .pointer (some ⟨D, 35, none⟩)) rfl (by kernel_rfl) (by kernel_rfl) (by kernel_rfl) (fun _ _ _ h => h) (Or.inl ⟨by rfl, fun w _ => by go_simp⟩) ?_
    try simp only [zz]
    refine wpAnyL_take (i := 1) (v := .slice vo k vc) rfl (by kernel_rfl) (by kernel_rfl) (by kernel_rfl) (by kernel_rfl) (by kernel_rfl) (fun _ _ _ h => h) (Or.inl ⟨by rfl, fun w hSw => by have q0 := Kept.cellOf hSw cv HND.out; go_simp⟩) h0 ?_
    try simp only [zz]
    refine wpAnyL_free (i := 2) (v := .int .i64 sm) rfl (by kernel_rfl) (by kernel_rfl) (by kernel_rfl) (fun _ _ _ h => h) (Or.inl ⟨by rfl, fun w _ => by go_simp⟩) ?_
    try simp only [zz]
    refine wpAnyL_free (i := 3) (v := .pointer (some ⟨b, 0, none⟩)) rfl (by kernel_rfl) (by kernel_rfl) (by kernel_rfl) (fun _ _ _ h => h) (Or.inl ⟨by rfl, fun w _ => by go_simp⟩) ?_
    try simp only [zz]
    refine wpAnyL_free (i := 4) (v := .pointer (some ⟨D, 0, none⟩)) rfl (by kernel_rfl) (by kernel_rfl) (by kernel_rfl) (fun _ _ _ h => h) (Or.inl ⟨by rfl, fun w _ => by go_simp⟩) ?_
    try simp only [zz]
    refine wpAnyL_take (i := 5) (v := .int .i64 (W : Int)) rfl (by kernel_rfl) (by kernel_rfl) (by kernel_rfl) (by kernel_rfl) (by kernel_rfl) (fun _ _ _ h => h) (Or.inl ⟨by rfl, fun w hSw => by have q0 := Kept.cellOf hSw cW HND.out; go_simp⟩) h0 ?_
    try simp only [zz]
    have htr := HTR.out v0 hrf
    refine wpAnyL_one (i := 6) (by kernel_rfl) rfl (fun K hK => ?_)
    rw [if_pos (by rfl)]
    go_simp
    refine htr.mono ?_
    rintro e6 w6 ⟨⟨ro, rc, rfl, hfr⟩, hk6, hr6⟩
    rw [HRN2.out]
    have k6 := k0.tr hk6
    refine hK.out _ _ (fun hS _ => hS.tr hk6) ?_
    clear hK K htr hrf
    try simp only [zz]
    have hwh := rwhole_ok ro rn2 rc rb2 w6 HRN2.out (by omega) hfr.1
    refine wpAnyL_one (i := 7) (by kernel_rfl) rfl (fun K hK => ?_)
    rw [if_pos (by rfl)]
    go_simp
    refine hwh.mono ?_
    rintro e7 w7 ⟨rfl, hk7⟩
    have k7 := k6.tr hk7
    have hr7 := hr6.kept hk7 (by simp) (by simp)
    refine hK.out _ _ (fun hS _ => hS.tr hk7) ?_
    clear hK K hwh hfr hr6
    try simp only [zz]
    refine wpAnyL_free (i := 8) (v := .agg ek.cells.toArray) rfl (by kernel_rfl) (by kernel_rfl) (by kernel_rfl) (fun _ _ _ h => h) (yieldsIf_build8 (by rfl) 62 #[(0, .tmp 67), (1, .tmp 72)] rfl #[(0, .int .i64 sm), (1, .agg (bys (pad rb2)).toArray)] (by simp [Act.eval, Act.put]) _ hbw) ?_
    try simp only [zz]
    have k8 := ka w7 (.cells ek.cells.toArray 62)
    have hO8 := ((HOf.out.kept k7 (fun g hg => by have := (own_blk HOf.out hg).1; have := HDB.out; simp; omega)).kept k8 (by simp))
    obtain ⟨v9, w9', hrun9, hO9, hk9⟩ := OwnW.add hO8 (Nat.le_trans HBf.out (Nat.le_trans k7.size k8.size)) w7.heap.size ek (row_rangeK (heap_new w7 (.cells ek.cells.toArray 62))) (by have := HK.out.1; have := own_lenW hO8; omega)
    obtain ⟨vo9, vc9, rfl, hvc9⟩ := own_shape hO9
    obtain ⟨q9, hq9⟩ := nm ((Lk ++ [ek]).length)
    rw [hq9] at hrun9 hO9
    clear hvc9
    refine wpAnyL_one (i := 9) (by kernel_rfl) rfl (fun K hK => ?_)
    rw [if_pos (by rfl)]
    refine wp_buildSl9 24 1 #[(0, .tmp 73)] rfl #[(0, .agg ek.cells.toArray)] (by simp [Act.eval, Act.put]) (hbsl w7) ?_
    refine hK.out _ _ (fun hS _ => hS.tr k8) ?_
    clear hK K
    try simp only [zz]
    refine wpAnyL_one (i := 10) (by kernel_rfl) rfl (fun K hK => ?_)
    rw [if_pos (by rfl)]
    refine wp_append_run8 _ (.tmp 66) (.tmp 74) 24 rfl (.slice vo k vc) (.slice (some ⟨w7.heap.size, 0, none⟩) 1 1) rfl rfl hrun9 ?_
    refine hK.out _ _ (fun _ h => by cases h) ?_
    clear hK K
    try simp only [zz]
    have hnS : ∀ g, g ∈ (Value.slice vo k vc).ownBlock.toList -> B <= g := fun g hg => (own_blk HOf.out (by simpa using hg)).1
    have hS9 := ((HSf.out.call k7).move k8 (by simp)).move hk9 (fun g hg => by have := hnS g hg; have := HDB.out; omega)
    have hR9 := (hr7.kept k8 (by simp) (by simp)).kept hk9 (fun hg => by have := hnS _ hg; have := HDB.out; omega) (fun hne a ha hg => by have := hnS _ hg; have := HSB.out hne a ha; have := HDB.out; omega)
    have c35 := hS9.dAt.cell (Sig.cv _ _)
    have f35 := hS9.dAt.fr 35
    have hA10 := hS9.dAt.setV (.slice vo9 q9 vc9)
    have k10 : Kept [D] w9' (w9'.setCell ⟨D, 35, none⟩ (.slice vo9 q9 vc9)) := (Kept.refl [D] w9').setCell (by simp) _
    refine wpAnyL_free (i := 11) (v := .pointer (some ⟨D, 35, none⟩)) rfl (by kernel_rfl) (by kernel_rfl) (by kernel_rfl) (fun _ _ _ h => h) (Or.inl ⟨by rfl, fun w _ => by go_simp⟩) ?_
    try simp only [zz]
    refine wpAnyL_one (i := 12) (by kernel_rfl) rfl (fun K hK => ?_)
    rw [if_pos (by rfl)]
    go_simp
    refine hK.out _ _ (fun _ h => by cases h) ?_
    clear hK K
    try simp only [zz]
    refine wpAnyL_done (by kernel_rfl) ?_ _
    have hR10 := hR9.kept k10 (by have := HDB.out; simp; omega) (fun hne a ha => by have := HSB.out hne a ha; have := HDB.out; simp; omega)
    have HME : Hid (rmeas (w9'.setCell ⟨D, 35, none⟩ (.slice vo9 q9 vc9)) b N = if sk'.e = 0 then N + 1 - sk'.at_ else 0) := hR10.meas N
    have HPF : Hid (∃ k v, RfS (w9'.setCell ⟨D, 35, none⟩ (.slice vo9 q9 vc9)) b ao cap ys (rdWs ys (W : Nat) (Dlt.sB ys) k).2 ∧ Dst w (w9'.setCell ⟨D, 35, none⟩ (.slice vo9 q9 vc9)) b R D (gsY (W : Int) xZ xL I hIl) v ∧ OwnW (w9'.setCell ⟨D, 35, none⟩ (.slice vo9 q9 vc9)) B v (rdWs ys (W : Nat) (Dlt.sB ys) k).1 ∧ B <= (w9'.setCell ⟨D, 35, none⟩ (.slice vo9 q9 vc9)).heap.size ∧ k <= (rdWs ys (W : Nat) (Dlt.sB ys) k).2.at_ + 1 ∧ ((rdWs ys (W : Nat) (Dlt.sB ys) k).2.e = 0 -> k <= (rdWs ys (W : Nat) (Dlt.sB ys) k).2.at_) ∧ ∀ j, j < k -> (rdWs ys (W : Nat) (Dlt.sB ys) j).2.e = 0 ∧ stLeft ys (rdWs ys (W : Nat) (Dlt.sB ys) j).2 ≠ 0) := by
     refine ⟨k + 1, .slice vo9 q9 vc9, ?_, ?_, ?_, ?_, ?_, ?_, HWAS.out⟩
     ·rw [HNX.out]; exact hR10
     ·exact hS9.put k10 hA10
     ·rw [HNX.out]; have h := OwnW.kept (show OwnW w9' B (.slice vo9 q9 vc9) (Lk ++ [ek]) from by rw [<-hq9] at hO9 ⊢; exact hO9) k10 (fun g hg => by have := (own_blk (show w9'.ownsRow B 62 33 (.slice vo9 q9 vc9) _ _ from hO9) hg).1; have := HDB.out; simp; omega); exact h
     ·exact Nat.le_trans HBf.out (Nat.le_trans k7.size (Nat.le_trans k8.size (Nat.le_trans hk9.size k10.size)))
     ·rw [HNX.out]; have := HAD.out; show k + 1 <= sk'.at_ + 1; omega
     ·rw [HNX.out]; intro h; have := HAD.out.2.2 h; have := HAD.out.1; show k + 1 <= sk'.at_; omega
    clear hA10 hS9 hR9 hR10 k10 hO9 hk9 hO8 k8 k7 hk7 k6 hk6 k0 h0 c35 f35 hnS cv cW hr7 hq9 hrun9 HSf HOf HF HTR HBf hbw hbsl
    generalize w9'.setCell ⟨D, 35, none⟩ (.slice vo9 q9 vc9) = wn at HPF HME ⊢
    go_wp2
    go_roundw
    case rel => exact HPF
    case measure =>
     have h1 := HMS.out
     have h2 := HK.out.2
     have h3 := HAD.out.2
     have h4 := HME.out
     rw [h1, h4]
     split
     ·rename_i h5; have := h3.2 h5; omega
     ·omega
  ·have hE1 : (e5 == 0) = false := by simpa using hE
   have hE2 : (e5 != 0) = true := by simpa using hE
   have HNO : Hid (dd = none) := by
    show _ = _
    rw [HDD.out]
    refine decS_no HOP.out (hstop (fun h => absurd (h.symm.trans he5).symm hE)) (fun hh => ?_)
    rw [HWN.out, he5] at hh
    exact hE hh.1
   have hrR := hS.rAt
   have HKZ : Hid (Kept [] w (wr.setRow R zeroS)) := hS.kept.trans (kept_row _ _ _) (fun i hi hl => by simp only [List.mem_singleton] at hi; have := HDB.out; omega)
   clear hR hS hO hBs hk1 hk2 hwas hstop hms hat hlen hblk he5 hE
   go_upto_region 18 with (fail)
   clear cE hE1 hE2
   have hbz := Tryz.builtSigZ
   have hiD : (Tryz.prog.info? 26).map (·.size) = some zeroS.size := Tryz.infoSigA sig0 (.slice none 0 0)
   have haD : zeroS.all (·.oneCell') = true := sig_one sig0 _ rfl
   have hrow : (wr.setRow R zeroS).heap[R]? = some (.cells zeroS 26 (0, 0)) := setRow_heap _ _ _ _ _ _ hrR
   go_wp2_with (first
    | refine wpList_buildRun8 rfl 26 #[] rfl #[] (by simp) _ (hbz _) ?_
    | refine wpList_store_rowTo rfl 26 (.tmp 2) (.tmp 87) rfl rfl R zeroS rfl rfl 26 zeroS hrR hiD rfl haD ?_)
   refine ret_row_slot rfl rfl R 26 _ (0, 0) _ rfl hrow Tryz.underlying26 rfl hiD ?_
   exact ⟨DecE.zero _ _ HNO.out, HKZ.out⟩
theorem rdecode_ok (ao : Option Addr) (n cap : Nat) (xs : List UInt8) (w : World) (h : InB8 w ao n cap xs) :
  Calls Tryz.prog 53 #[.slice ao n cap] w fun e w' => DecE w w' e (decS xs) ∧ Kept [] w w' := by
 cases ho : openB xs with
 | none => exact rdec_open ao n cap xs w h _ ho (decS_no_open ho)
 | some ys =>
  by_cases h1 : mk ys = 83
  ·by_cases h2 : (Dlt.s4 ys).e = 0 ∧ (isW (nW ys) && isZ (nZ ys)) = true
   ·refine rdec_loop ao n cap xs w h _ ys ho h1 h2 ?_ rfl
    have h4 := h2.2
    rw [Bool.and_eq_true] at h4
    unfold rheadS
    simp only [Bool.and_eq_true, decide_eq_true_eq]
    exact ⟨h1, ⟨⟨h2.1, h4.1⟩, h4.2⟩⟩
   ·refine rdec_head ao n cap xs w h _ ys ho h1 h2 (decS_no_head ho ?_)
    apply Bool.eq_false_iff.2
    intro hh
    unfold rheadS at hh
    simp only [Bool.and_eq_true, decide_eq_true_eq] at hh
    exact h2 ⟨hh.2.1.1, by rw [Bool.and_eq_true]; exact ⟨hh.2.1.2, hh.2.2⟩⟩
  ·refine rdec_mark ao n cap xs w h _ ys ho h1 (decS_no_head ho ?_)
   apply Bool.eq_false_iff.2
   intro hh
   unfold rheadS at hh
   simp only [Bool.and_eq_true, decide_eq_true_eq] at hh
   exact h1 hh.1
end

section
open Go.ChangeShapes Go.WideShapes Go.ChangeAt Go.RowKit Go.Deep Go.Joins
structure InB (w : World) (ao : Option Addr) (n cap : Nat) (xs : List UInt8) : Prop where
 len : xs.length = n
 le : n <= cap
 max : cap <= 140737488351232
 sl : Sl w ao xs
 nil : ao = none -> xs = [] ∧ cap = 0
 spot : n ≠ 0 -> ∀ a, ao = some a -> a.spot = none
theorem inb_of_ints {w : World} {a : Addr} {len cap : Nat} {zs : List Int} (hl : len <= cap) (hm : cap <= 140737488351232) (hz : zs.length = cap) (hcell : ∀ i, i < zs.length -> w.cell? (a.add i) = some (.int .u8 (zs.getD i 0))) (hwz : ∀ n ∈ zs, (Lit.int .u8 n).wf = true) :
  ∃ xs, InB w (some a) len cap xs := by
 obtain ⟨b, off, spot⟩ := a
 have hsp : len ≠ 0 -> spot = none := fun h => by simpa [Addr.add] using World.cell?_spot (hcell 0 (by omega))
 refine ⟨(zs.take len).map (fun z => UInt8.ofNat z.toNat), by simp; omega, hl, by omega, ?_, by simp, fun h a ha => by cases ha; exact hsp h⟩
 intro i hi
 have hi' : i < len := by simp at hi; omega
 have hc := hcell i (by omega)
 obtain rfl := hsp (by omega)
 refine ⟨b, off, rfl, ?_⟩
 rw [Addr.add_mid] at hc
 rw [hc]
 have hzi : i < zs.length := by omega
 have hb := bounds_u8 (hwz (zs.getD i 0) (by simp [List.getElem?_eq_getElem hzi]))
 have e : ((zs.take len).map (fun z => UInt8.ofNat z.toNat)).getD i 0 = UInt8.ofNat (zs.getD i 0).toNat := by
  simp [List.getElem?_eq_getElem hzi, hi']
 rw [e, UInt8.toNat_ofNat', Nat.mod_eq_of_lt (by omega)]
 congr 2
 omega
section
variable {H : Type} {enc : TypeId × Value -> H} {w : World}
theorem open_bytes {fuel : Nat} {v : Value} {x : DataW H × List MemPlace} (h : DataW.trod enc Tryz.prog w 0 (fun _ => true) true fuel 27 [v] = some x) (hw : ∀ n ∈ x.1.weights Tryz.prog 27, n <= reachBytes) :
  ∃ ao n cap xs, v = .slice ao n cap ∧ InB w ao n cap xs := by
 rcases open_ints Tryz.underlying27 Tryz.underlying5 (by kernel_rfl) h with ⟨hcs, _⟩ | ⟨a, l, c, zs, hcs, _, hl, hm, hz, hx, hcell, hwz⟩
 ·cases hcs
  exact ⟨none, 0, 0, [], rfl, rfl, Nat.le_refl _, by omega, Sl.nil _ _, fun _ => ⟨rfl, rfl⟩, by simp⟩
 ·cases hcs
  have hb1 : Tryz.prog.bytesOf 5 = 1 := by kernel_rfl
  have hz' : zs.length = c := by simpa using hz
  have hsz : c <= 140737488351232 := by
   have := hw ((zs.take l).length + (zs.drop l).length) (by
    rw [hx]
    simp only [DataW.weights, Tryz.underlying27, hb1, Nat.mul_one, lits, List.length_map, List.mem_cons, true_or])
   have hr : reachBytes = 140737488351232 := rfl
   rw [hr] at this
   simp at this
   omega
  obtain ⟨xs, h⟩ := inb_of_ints hl hsz hz' hcell hwz
  exact ⟨some a, l, c, xs, rfl, h⟩
end
end

section
open Dlt
theorem InB.in8 {w : World} {ao : Option Addr} {n cap : Nat} {xs : List UInt8} (h : InB w ao n cap xs) : InB8 w ao n cap xs := ⟨h.len, h.le, by have := h.le; have := h.max; omega, h.sl, h.nil⟩
theorem TellS.open {w w' : World} {e : Ending} {c : Int} {s : Sig} (h : TellS w w' e c s) : ∃ so sc, e = .returned (.tuple #[.agg (s.cells (.slice so s.blocks.length sc)).toArray, .int .i64 c]) ∧ SigIn w' s so s.blocks.length sc ∧ (s.blocks ≠ [] -> ∀ a, so = some a -> w.heap.size <= a.block) := by
 obtain ⟨v, rfl, ho⟩ := h
 obtain ⟨so, sc, rfl, hsc, hwk, hb, hm⟩ := OwnW.wks ho
 refine ⟨so, sc, rfl, ⟨rfl, hsc, hm, hwk⟩, fun _ a ha => ?_⟩
 obtain ⟨g, rfl, hg, _⟩ := hb a ha
 exact hg
theorem SigIn.row {w : World} {s : Sig} {so : Option Addr} {n sc O : Nat} {cs : Array Value} (h : SigIn w s so n sc) (hO : s.blocks ≠ [] -> ∀ a, so = some a -> a.block ≠ O) : SigIn (w.setRow O cs) s so n sc := ⟨h.len, h.le, h.max, h.at_.kept (kept_row w O cs) (fun hn a ha => by simpa using hO hn a ha)⟩
end

section
open Dlt
theorem applyB_len18 (bs xs : List UInt8) : (applyB bs xs).length <= 131072 := by
 unfold applyB
 split
 ·rename_i h0
  cases hd : decD xs with
  | none => simp
  | some d =>
   have hok := (decD_some hd).1
   unfold applyE at h0
   split at h0; · cases h0
   rw [hd] at h0
   simp only at h0
   split at h0
   ·rename_i hB
    show (doIs d.size bs d.steps).length <= _
    rw [doIs_len (by rw [hB.1]; exact hok.ins), hok.sum]
    have := hok.t2
    omega
   ·cases h0
 ·simp
def decC18 (xs : List UInt8) : Int := match decS xs with | none => 180 | some _ => 0
def decV18 (xs : List UInt8) : Sig := match decS xs with | none => sig0 | some s => s
theorem decode_k18 (ao : Option Addr) (n cap : Nat) (xs : List UInt8) (w : World) (h : InB8 w ao n cap xs) :
  Calls Tryz.prog 17 #[.slice ao n cap] w fun e w' => TellS w w' e (decC18 xs) (decV18 xs) ∧ Kept [] w w' := by
 have hd := decode_ok ao n cap xs w h
 unfold decC18 decV18
 cases hh : decS xs with
 | none => rw [hh] at hd; exact hd
 | some s => rw [hh] at hd; exact hd
theorem rdecode_k18 (ao : Option Addr) (n cap : Nat) (xs : List UInt8) (w : World) (h : InB8 w ao n cap xs) :
  Calls Tryz.prog 53 #[.slice ao n cap] w fun e w' => TellS w w' e (decC18 xs) (decV18 xs) ∧ Kept [] w w' := by
 have hd := rdecode_ok ao n cap xs w h
 unfold decC18 decV18
 cases hh : decS xs with
 | none => rw [hh] at hd; exact hd
 | some s => rw [hh] at hd; exact hd
theorem alikeTo_ok (eo : Option Addr) (en ec : Nat) (es : List UInt8) (ao : Option Addr) (n cap : Nat) (xs : List UInt8) (bo : Option Addr) (m bc : Nat) (ys : List UInt8) (w : World) (hb : InB8 w eo en ec es) (hx : InB8 w ao n cap xs) (hy : InB8 w bo m bc ys) :
  Calls Tryz.prog 18 #[.slice eo en ec, .slice ao n cap, .slice bo m bc] w fun e w' => e = .returned (.bool true) ∧ Kept [] w w' := by
 have hz := Tryz.zeroSig
 obtain ⟨c, hcc⟩ := nm (applyE es xs)
 obtain ⟨gt, hgt⟩ := nm (applyB es xs)
 obtain ⟨gn, hgn⟩ := nm (gt.length)
 have hgl : gn <= 4611686018427387904 := by
  rw [<-hgn, <-hgt]
  have := applyB_len18 es xs
  omega
 obtain ⟨c2, hc2⟩ : ∃ c, decC18 ys = c := ⟨_, rfl⟩
 obtain ⟨sg, hsg⟩ := nm (decV18 ys)
 obtain ⟨sn, hsn⟩ := nm (sg.blocks.length)
 have hP := apply_ok eo en ec es ao n cap xs w hb hx
 have HR2 := hide (fun W (hW2 : Kept [] w W) => rapply_ok eo en ec es ao n cap xs W (hb.kept hW2) (hx.kept hW2))
 have HD1 := hide (fun W (hW2 : Kept [] w W) => decode_k18 bo m bc ys W (hy.kept hW2))
 have HD2 := hide (fun W (hW2 : Kept [] w W) => rdecode_k18 bo m bc ys W (hy.kept hW2))
 rw [hcc, hgt] at hP HR2
 rw [hc2, hsg] at HD1 HD2
 have HGN := hide hgn
 have HQS := hide hsn
 clear hcc hgt hgn hsn hc2 hsg hb hx hy
 go_enter Tryz.func18, Tryz.ntmps18
 go_upto_region 2 with (go_at_call 16; refine hP.mono ?_; rintro r wa ⟨⟨so1, sc1, rfl, hoa⟩, hka⟩; rw [HGN.out] at hoa ⊢; have Ha := hide (ai hoa hka); have hP2 := HR2.out wa hka; clear hP hoa hka HR2)
 go_upto_region 3 with (go_at_call 21; refine hP2.mono ?_; rintro r wb ⟨⟨po1, pc1, rfl, hob⟩, hkb⟩; rw [HGN.out] at hob ⊢; have Hb := hide (ai hob hkb); clear hP2 hob hkb)
 have Kb := hide (Ha.out.2.tr Hb.out.2)
 have HSM := hide (fun W (hW2 : Kept [] wb W) => same_yes so1 po1 gn sc1 pc1 gt W HGN.out hgl (own_sl9 (own_kept9 (own_kept9 Ha.out.1 Hb.out.2 (by simp)) hW2 (by simp))) (own_sl9 (own_kept9 Hb.out.1 hW2 (by simp))))
 have hS1 := HD1.out wb Kb.out
 clear Ha Hb HD1
 go_upto_region 4 with (first
  | (go_at_call 17; refine hS1.mono ?_; rintro r wc ⟨hta, hka⟩; obtain ⟨so, sc, rfl, hsi, hsb⟩ := TellS.open hta; rw [HQS.out] at hsi ⊢; have Ha := hide (ai hka hsi); have hoza := heap_new wc (.cells zeroS 26); have hia := Tryz.infoSigA sg (.slice so sn sc); have hzs : zeroS.size = (sg.cells (.slice so sn sc)).toArray.size := (by rw [sig_size]; exact sig_size _ _); have hal := sig_one sg (.slice so sn sc) rfl; clear hS1 hta hka hsi hsb)
  | refine wpList_store_rowTo rfl 26 (.tmp 11) (.tmp 30) rfl rfl wc.heap.size (sg.cells (.slice so sn sc)).toArray rfl rfl 26 zeroS hoza hia hzs hal ?_)
 have kb : Kept [] wc ((wc.alloc (.cells zeroS 26)).setRow wc.heap.size (sg.cells (.slice so sn sc)).toArray) := ((Kept.refl [] wc).alloc _).trans (kept_row _ wc.heap.size _) (fun i hi hl => by simp only [List.mem_singleton] at hi; omega)
 have hA1 : SigAt ((wc.alloc (.cells zeroS 26)).setRow wc.heap.size (sg.cells (.slice so sn sc)).toArray) wc.heap.size sg (.slice so sn sc) := ⟨setRow_heap _ _ _ _ _ _ hoza⟩
 obtain ⟨O, hO⟩ := nm (wc.heap.size)
 rw [hO] at kb hA1 ⊢
 have Kc := hide (Ha.out.1.tr kb)
 have HIb := hide (Ha.out.2.kept kb)
 clear hO hoza hia hzs hal kb Ha
 generalize (wc.alloc (.cells zeroS 26)).setRow O (sg.cells (.slice so sn sc)).toArray = wd at hA1 Kc HIb ⊢
 have HA1 := hide hA1
 have hS2 := HD2.out wd (Kb.out.tr Kc.out)
 clear hA1 HD2
 go_upto_region 5 with (first
  | (go_at_call 53; refine hS2.mono ?_; rintro r we ⟨htd, hkd⟩; obtain ⟨po, pc, rfl, hpi, hpb⟩ := TellS.open htd; rw [HQS.out] at hpi ⊢; have Hd := hide (ai hkd hpi); have hozd := heap_new we (.cells zeroS 26); have hiad := Tryz.infoSigA sg (.slice po sn pc); have hzsd : zeroS.size = (sg.cells (.slice po sn pc)).toArray.size := (by rw [sig_size]; exact sig_size _ _); have hald := sig_one sg (.slice po sn pc) rfl; clear hS2 htd hkd hpi hpb)
  | refine wpList_store_rowTo rfl 26 (.tmp 13) (.tmp 35) rfl rfl we.heap.size (sg.cells (.slice po sn pc)).toArray rfl rfl 26 zeroS hozd hiad hzsd hald ?_)
 have ke : Kept [] we ((we.alloc (.cells zeroS 26)).setRow we.heap.size (sg.cells (.slice po sn pc)).toArray) := ((Kept.refl [] we).alloc _).trans (kept_row _ we.heap.size _) (fun i hi hl => by simp only [List.mem_singleton] at hi; omega)
 have hA2 : SigAt ((we.alloc (.cells zeroS 26)).setRow we.heap.size (sg.cells (.slice po sn pc)).toArray) we.heap.size sg (.slice po sn pc) := ⟨setRow_heap _ _ _ _ _ _ hozd⟩
 obtain ⟨O2, hO2⟩ := nm (we.heap.size)
 rw [hO2] at ke hA2 ⊢
 have kde := hide (Hd.out.1.tr ke)
 have hJ2 := hide (Hd.out.2.kept ke)
 clear hO2 hozd hiad hzsd hald ke Hd
 generalize (we.alloc (.cells zeroS 26)).setRow O2 (sg.cells (.slice po sn pc)).toArray = wf at hA2 kde hJ2 ⊢
 have HA2 := hide hA2
 have hsm := HSM.out wf (Kc.out.tr kde.out)
 have HAL := hide (fun W (hW2 : Kept [] wf W) => alike_yes sg so sn sc po pc W ((HIb.out.kept kde.out).kept hW2) (hJ2.out.kept hW2))
 have hil := Tryz.infoSig sg (.slice so sn sc)
 have hil2 := Tryz.infoSig sg (.slice po sn pc)
 have HRA := hide (fun W (hW2 : Kept [] wf W) => ((HA1.out.kept kde.out (by simp)).kept hW2 (by simp)).range)
 have HRB := hide (fun W (hW2 : Kept [] wf W) => (HA2.out.kept hW2 (by simp)).range)
 have KF := hide ((Kb.out.tr Kc.out).tr kde.out)
 clear hA2 hJ2 HA1 HA2 HIb Kb Kc kde HSM
 go_wp2_with (first
  | (go_at_call 22; refine hsm.mono ?_; rintro r wg ⟨rfl, nf, hwf⟩; have Hc := hide (show Kept [] wf wg by rw [hwf]; exact (Kept.refl _ _).drewN nf); have hal := HAL.out wg Hc.out; have hr1 := HRA.out wg Hc.out; have hr2 := HRB.out wg Hc.out; clear hsm hwf HAL HRA HRB)
  | refine wpList_load_midW 26 (.tmp 11) rfl O 0 rfl (sg.cells (.slice so sn sc)) _ hr1 Tryz.underlying26 rfl hil (by kernel_rfl) ?_
  | refine wpList_load_midW 26 (.tmp 13) rfl O2 0 rfl (sg.cells (.slice po sn pc)) _ hr2 Tryz.underlying26 rfl hil2 (by kernel_rfl) ?_
  | (go_at_call 54; refine hal.mono ?_; rintro r wh ⟨rfl, hkh⟩; have Hh := hide (Hc.out.tr hkh); clear hal hkh))
 go_ret
 exact ⟨rfl, KF.out.tr Hh.out⟩
end

end Go.Proofs.YtmklodligplbaabGreat
