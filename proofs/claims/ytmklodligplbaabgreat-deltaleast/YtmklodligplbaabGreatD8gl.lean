import Derived.Test.YtmklodligplbaabGreatD8fl
namespace Go.Proofs.YtmklodligplbaabGreat
open Go.RowKit
open Dlt
set_option linter.unusedVariables false
set_option linter.unusedSimpArgs false
def zeroW : Array Value := (wrow 0 0 none (List.replicate 64 0) 0).toArray
theorem Tryz.zeroWriter (W : World) : (zeroValue 123).run Tryz.prog W = .ok (.agg zeroW) W := by kernel_rfl
theorem wr_zero (w : World) : Wr (w.alloc (.cells zeroW 123)) w.heap.size [] [] := by
 refine ⟨⟨none, List.replicate 64 0, ⟨?_, by simp⟩, by simp, .nil⟩, by simp⟩
 rw [heap_new]
 rfl
structure Wq (w0 w : World) (B : Nat) (xs : List UInt8) : Prop where
 ex : ∃ bs, Wr w B bs xs ∧ ∀ g, g ∈ bs → w0.heap.size ≤ g
 kp : Kept [] w0 w
 ge : w0.heap.size ≤ B
theorem Wq.lt {w0 w : World} {B : Nat} {xs : List UInt8} (h : Wq w0 w B xs) : B < w.heap.size := by
 obtain ⟨bs, h1, _⟩ := h.ex
 exact h1.lt
theorem Wq.new {w0 w : World} (h : Kept [] w0 w) : Wq w0 (w.alloc (.cells zeroW 123)) w.heap.size [] := ⟨⟨[], wr_zero w, by simp⟩, h.alloc _, h.size⟩
theorem Wq.later {w0 w w' : World} {B : Nat} {xs : List UInt8} (h : Wq w0 w B xs) (hk : Kept [] w w') : Wq w0 w' B xs := by
 obtain ⟨bs, h1, h2⟩ := h.ex
 exact ⟨⟨bs, h1.kept hk (by simp) (by simp), h2⟩, h.kp.trans hk (by simp), h.ge⟩
theorem Wq.wrote {w0 w w' : World} {B : Nat} {bs : List Nat} {xs ys : List UInt8} (h : Wq w0 w B xs) (hb : ∀ g, g ∈ bs → w0.heap.size ≤ g) (hw : Wrote w w' B bs ys) : Wq w0 w' B ys ∧ Kept [B] w w' := by
 obtain ⟨bs', h1, h2, h3⟩ := hw
 refine ⟨⟨⟨bs', h1, fun g hg => ?_⟩, h.kp.trans h2 (fun i hi hl => ?_), h.ge⟩, h2⟩
 ·rcases h3 g hg with h | h'
  ·exact hb g h
  ·exact Nat.le_trans h.kp.size h'
 ·simp only [List.mem_singleton] at hi
  have := h.ge
  omega
theorem number_q {w0 w : World} {B : Nat} {ys : List UInt8} (h : Wq w0 w B ys) (v : Nat) (hv : v ≤ 2147483647) (hl : ys.length ≤ 100000000000) :
  Calls Tryz.prog 72 #[.pointer (some ⟨B, 0, none⟩), .int .i64 v] w fun e w' => e = .returned (.tuple #[]) ∧ Wq w0 w' B (ys ++ Pure.enc v) ∧ Kept [B] w w' := by
 obtain ⟨bs, h1, h2⟩ := h.ex
 exact (wnumber_ok h1 v hv (by omega)).mono fun e w' ⟨he, hw⟩ => ⟨he, h.wrote h2 hw⟩
theorem fixed_q {w0 w : World} {B : Nat} {ys : List UInt8} (h : Wq w0 w B ys) (v n : Nat) (h1 : 1 ≤ n) (h4 : n ≤ 4) (hv : v < 256 ^ n) (hl : ys.length ≤ 100000000000) :
  Calls Tryz.prog 71 #[.pointer (some ⟨B, 0, none⟩), .int .i64 v, .int .i64 n] w fun e w' => e = .returned (.tuple #[]) ∧ Wq w0 w' B (ys ++ Pure.fix v n) ∧ Kept [B] w w' := by
 obtain ⟨bs, g1, g2⟩ := h.ex
 exact (wfixed_ok g1 v n h1 h4 hv (by omega)).mono fun e w' ⟨he, hw⟩ => ⟨he, h.wrote g2 hw⟩
theorem raw_q {w0 w : World} {B : Nat} {ys : List UInt8} (h : Wq w0 w B ys) (ao : Option Addr) (n cap : Nat) (xs : List UInt8) (hn : xs.length = n) (hs : Sl w ao xs) (hfar : ∀ a, ao = some a → a.block ≠ B) (hlc : n ≤ cap) (hl : ys.length ≤ 100000000000) (hm : n ≤ 100000000000) :
  Calls Tryz.prog 73 #[.pointer (some ⟨B, 0, none⟩), .slice ao n cap] w fun e w' => e = .returned (.tuple #[]) ∧ Wq w0 w' B (ys ++ xs) ∧ Kept [B] w w' := by
 obtain ⟨bs, g1, g2⟩ := h.ex
 exact (wraw_ok g1 ao n cap xs hn hs hfar (by omega) (by omega)).mono fun e w' ⟨he, hw⟩ => ⟨he, h.wrote g2 hw⟩
theorem text_q {w0 w : World} {B : Nat} {ys : List UInt8} (h : Wq w0 w B ys) (ao : Option Addr) (n cap : Nat) (xs : List UInt8) (hn : xs.length = n) (hs : Sl w ao xs) (hfar : ∀ a, ao = some a → a.block ≠ B) (hlc : n ≤ cap) (hl : ys.length ≤ 100000000000) (hm : n ≤ 2147483647) :
  Calls Tryz.prog 105 #[.pointer (some ⟨B, 0, none⟩), .slice ao n cap] w fun e w' => e = .returned (.tuple #[]) ∧ Wq w0 w' B (ys ++ (Pure.enc xs.length ++ xs)) ∧ Kept [B] w w' := by
 obtain ⟨bs, g1, g2⟩ := h.ex
 rw [← List.append_assoc]
 exact (wtext_ok g1 ao n cap xs hn hs hfar (by omega) (by omega) (by omega)).mono fun e w' ⟨he, hw⟩ => ⟨he, h.wrote g2 hw⟩
theorem data_q {w0 w : World} {B : Nat} {ys : List UInt8} (h : Wq w0 w B ys) (hl : ys.length ≤ 100000000000) :
  Calls Tryz.prog 106 #[.pointer (some ⟨B, 0, none⟩)] w fun e w' => ∃ ao cap, e = .returned (.tuple #[.slice ao ys.length cap, .int .i64 0]) ∧ Sl w' ao ys ∧ w'.ownsRow w.heap.size 5 1 (.slice ao ys.length cap) ys.length (bys ys) ∧ Kept [] w w' := by
 obtain ⟨bs, g1, g2⟩ := h.ex
 exact (wdata_own g1 (by omega)).mono fun e w' ⟨ao, cap, he, hf, _, hk, ho⟩ => ⟨ao, cap, he, hf.1, ho, hk⟩
theorem sum_at {ao : Option Addr} {n cap : Nat} {xs : List UInt8} {w : World} (hn : xs.length = n) (hm : n ≤ 100000000000) (hs : Sl w ao xs) :
  Calls Tryz.prog 107 #[.slice ao n cap] w fun e w' => e = .returned (.int .i64 (Pure.sum xs)) ∧ Kept [] w w' :=
 (sum_n ao n cap xs w hn (by omega) hs).mono fun e w' ⟨he, hb⟩ => ⟨he, Kept.of_below hb⟩
def RowB (w w' : World) (e : Ending) (xs : List UInt8) : Prop := ∃ ao cap, e = .returned (.slice ao xs.length cap) ∧ w'.ownsRow w.heap.size 5 1 (.slice ao xs.length cap) xs.length (bys xs)
set_option maxHeartbeats 1600000 in
set_option maxRecDepth 100000 in
theorem summed_ok {w0 w : World} {B : Nat} {xs : List UInt8} (h : Wq w0 w B xs) (hl : xs.length ≤ 10000000) :
  Calls Tryz.prog 75 #[.pointer (some ⟨B, 0, none⟩)] w fun e w' => RowB w w' e (sealed xs) ∧ Kept [B] w w' := by
 have hd := data_q h (by omega)
 have hs4 : Pure.sum xs < 256 ^ 4 := by unfold Pure.sum; omega
 have H := hide h
 have HL := hide hl
 have HS4 := hide hs4
 clear h hl hs4
 obtain ⟨m, hm⟩ : ∃ m, xs.length = m := ⟨_, rfl⟩
 rw [hm] at hd
 have HM := hide hm
 clear hm
 go_enter Tryz.func75, Tryz.ntmps75
 go_upto_region 2 with (go_at_call 106; refine hd.mono ?_; rintro r w1 ⟨ao1, cap1, rfl, hs1, ho1, hk1⟩; have H1 := hide (And.intro hs1 hk1); clear hd ho1 hs1 hk1)
 have hsm := sum_at (cap := cap1) HM.out (by have := HL.out; have := HM.out; omega) H1.out.1
 obtain ⟨v, hv⟩ : ∃ v, Pure.sum xs = v := ⟨_, rfl⟩
 rw [hv] at hsm
 have HV := hide hv
 clear hv
 go_upto_region 3 with (first
  | (go_at_call 107; refine hsm.mono ?_; rintro r w2 ⟨rfl, hk2⟩; have H2 := hide (H.out.later (H1.out.2.trans hk2 (by simp))); have hfx := fixed_q H2.out v 4 (by omega) (by omega) (by have := HS4.out; rw [HV.out] at this; exact this) (by have := HL.out; omega); have HK2 := hide (H1.out.2.trans hk2 (by simp)); clear hsm hk2)
  | (go_at_call 71; refine hfx.mono ?_; rintro r w3 ⟨rfl, hq3, hk3⟩; have H3 := hide (And.intro hq3 hk3); clear hfx hq3 hk3))
 have hd3 := data_q H3.out.1 (by have := HL.out; simp only [List.length_append, Pure.fix_len]; omega)
 have HE : Hid (sealed xs = xs ++ Pure.fix v 4) := by show _ = _; unfold sealed; rw [HV.out]
 generalize xs ++ Pure.fix v 4 = ys at hd3 HE H3
 obtain ⟨m3, hm3⟩ : ∃ m, ys.length = m := ⟨_, rfl⟩
 rw [hm3] at hd3
 have HM3 := hide hm3
 clear hm3
 go_wp2_with (go_at_call 106; refine hd3.mono ?_; rintro r w4 ⟨ao4, cap4, rfl, hs4, ho4, hk4⟩; have H4 := hide (And.intro ho4 hk4); clear hd3 ho4 hs4 hk4)
 go_ret
 have k1 : Kept [B] w w3 := (HK2.out.mono (by simp)).trans H3.out.2 (by simp)
 refine ⟨⟨ao4, cap4, ?_, ?_⟩, k1.trans H4.out.2 (by simp)⟩
 ·rw [HE.out, HM3.out]; rfl
 ·rw [HE.out, HM3.out]; exact own_base H4.out.1 k1.size
theorem Tryz.sliceIDo (W : World) (b o : Nat) (n : Nat) (hn : n ≤ 32) :
  (Instr.sliceAt 23 (.pointer (some ⟨b, o, none⟩)) none (some (.int .i64 n)) none).run Tryz.prog W = .ok (.slice (some ⟨b, o, none⟩) n 32) W := by
 have ha : Tryz.prog.arrayLen 23 = 32 := by kernel_rfl
 have hz : (sizeOf (Tryz.prog.elem 23)).run Tryz.prog W = .ok 1 W := by kernel_rfl
 have h := run_sliceAt_array_h (P := Tryz.prog) W 23 ⟨b, o, none⟩ (by kernel_rfl) .i64 n (by omega) (by rw [ha]; omega)
 rw [h, hz, ha]
 simp [slicedAt, Addr.add_mid]
end Go.Proofs.YtmklodligplbaabGreat
