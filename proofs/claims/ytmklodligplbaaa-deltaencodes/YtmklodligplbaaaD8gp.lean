/-
  Contracts: delta.summed, writeSignature, Encode.
-/
import Derived.Test.YtmklodligplbaaaD8fp
namespace Go.Proofs.Ytmklodligplbaaa
open Go.RowKit
open Dlt
set_option linter.unusedVariables false
set_option linter.unusedSimpArgs false

/-- A new Writer. -/
def zeroW : Array Value := (wrow 0 0 none (List.replicate 64 0) 0).toArray
theorem Try.zeroWriter (W : World) : (zeroValue 84).run Try.prog W = .ok (.agg zeroW) W := by kernel_rfl
theorem wr_zero (w : World) : Wr (w.alloc (.cells zeroW 84)) w.heap.size [] [] := by
  refine ⟨⟨none, List.replicate 64 0, ⟨?_, by simp⟩, by simp, .nil⟩, by simp⟩
  rw [heap_new]
  rfl

/-- A Writer made since w0 that has written xs. -/
structure Wq (w0 w : World) (B : Nat) (xs : List UInt8) : Prop where
  ex : ∃ bs, Wr w B bs xs ∧ ∀ g, g ∈ bs → w0.heap.size ≤ g
  kp : Kept [] w0 w
  ge : w0.heap.size ≤ B
theorem Wq.lt {w0 w : World} {B : Nat} {xs : List UInt8} (h : Wq w0 w B xs) : B < w.heap.size := by
  obtain ⟨bs, h1, _⟩ := h.ex
  exact h1.lt
theorem Wq.new {w0 w : World} (h : Kept [] w0 w) : Wq w0 (w.alloc (.cells zeroW 84)) w.heap.size [] := ⟨⟨[], wr_zero w, by simp⟩, h.alloc _, h.size⟩
theorem Wq.later {w0 w w' : World} {B : Nat} {xs : List UInt8} (h : Wq w0 w B xs) (hk : Kept [] w w') : Wq w0 w' B xs := by
  obtain ⟨bs, h1, h2⟩ := h.ex
  exact ⟨⟨bs, h1.kept hk (by simp) (by simp), h2⟩, h.kp.trans hk (by simp), h.ge⟩
theorem Wq.wrote {w0 w w' : World} {B : Nat} {bs : List Nat} {xs ys : List UInt8} (h : Wq w0 w B xs) (hb : ∀ g, g ∈ bs → w0.heap.size ≤ g) (hw : Wrote w w' B bs ys) : Wq w0 w' B ys ∧ Kept [B] w w' := by
  obtain ⟨bs', h1, h2, h3⟩ := hw
  refine ⟨⟨⟨bs', h1, fun g hg => ?_⟩, h.kp.trans h2 (fun i hi hl => ?_), h.ge⟩, h2⟩
  · rcases h3 g hg with h | h'
    · exact hb g h
    · exact Nat.le_trans h.kp.size h'
  · simp only [List.mem_singleton] at hi
    have := h.ge
    omega

theorem number_q {w0 w : World} {B : Nat} {ys : List UInt8} (h : Wq w0 w B ys) (v : Nat) (hv : v ≤ 2147483647) (hl : ys.length ≤ 100000000000) :
    Calls Try.prog 52 #[.pointer (some ⟨B, 0, none⟩), .int .i64 v] w fun e w' => e = .returned (.tuple #[]) ∧ Wq w0 w' B (ys ++ Pure.enc v) ∧ Kept [B] w w' := by
  obtain ⟨bs, h1, h2⟩ := h.ex
  exact (wnumber_ok h1 v hv (by omega)).mono fun e w' ⟨he, hw⟩ => ⟨he, h.wrote h2 hw⟩

theorem fixed_q {w0 w : World} {B : Nat} {ys : List UInt8} (h : Wq w0 w B ys) (v n : Nat) (h1 : 1 ≤ n) (h4 : n ≤ 4) (hv : v < 256 ^ n) (hl : ys.length ≤ 100000000000) :
    Calls Try.prog 51 #[.pointer (some ⟨B, 0, none⟩), .int .i64 v, .int .i64 n] w fun e w' => e = .returned (.tuple #[]) ∧ Wq w0 w' B (ys ++ Pure.fix v n) ∧ Kept [B] w w' := by
  obtain ⟨bs, g1, g2⟩ := h.ex
  exact (wfixed_ok g1 v n h1 h4 hv (by omega)).mono fun e w' ⟨he, hw⟩ => ⟨he, h.wrote g2 hw⟩

theorem raw_q {w0 w : World} {B : Nat} {ys : List UInt8} (h : Wq w0 w B ys) (ao : Option Addr) (n cap : Nat) (xs : List UInt8) (hn : xs.length = n) (hs : Sl w ao xs) (hfar : ∀ a, ao = some a → a.block ≠ B) (hlc : n ≤ cap) (hl : ys.length ≤ 100000000000) (hm : n ≤ 100000000000) :
    Calls Try.prog 53 #[.pointer (some ⟨B, 0, none⟩), .slice ao n cap] w fun e w' => e = .returned (.tuple #[]) ∧ Wq w0 w' B (ys ++ xs) ∧ Kept [B] w w' := by
  obtain ⟨bs, g1, g2⟩ := h.ex
  exact (wraw_ok g1 ao n cap xs hn hs hfar (by omega) (by omega)).mono fun e w' ⟨he, hw⟩ => ⟨he, h.wrote g2 hw⟩

theorem text_q {w0 w : World} {B : Nat} {ys : List UInt8} (h : Wq w0 w B ys) (ao : Option Addr) (n cap : Nat) (xs : List UInt8) (hn : xs.length = n) (hs : Sl w ao xs) (hfar : ∀ a, ao = some a → a.block ≠ B) (hlc : n ≤ cap) (hl : ys.length ≤ 100000000000) (hm : n ≤ 2147483647) :
    Calls Try.prog 94 #[.pointer (some ⟨B, 0, none⟩), .slice ao n cap] w fun e w' => e = .returned (.tuple #[]) ∧ Wq w0 w' B (ys ++ (Pure.enc xs.length ++ xs)) ∧ Kept [B] w w' := by
  obtain ⟨bs, g1, g2⟩ := h.ex
  rw [← List.append_assoc]
  exact (wtext_ok g1 ao n cap xs hn hs hfar (by omega) (by omega) (by omega)).mono fun e w' ⟨he, hw⟩ => ⟨he, h.wrote g2 hw⟩

theorem data_q {w0 w : World} {B : Nat} {ys : List UInt8} (h : Wq w0 w B ys) (hl : ys.length ≤ 100000000000) :
    Calls Try.prog 84 #[.pointer (some ⟨B, 0, none⟩)] w fun e w' => ∃ ao cap, e = .returned (.tuple #[.slice ao ys.length cap, .int .i64 0]) ∧ Sl w' ao ys ∧ w'.ownsRow w.heap.size 5 1 (.slice ao ys.length cap) ys.length (bys ys) ∧ Kept [] w w' := by
  obtain ⟨bs, g1, g2⟩ := h.ex
  exact (wdata_own g1 (by omega)).mono fun e w' ⟨ao, cap, he, hf, _, hk, ho⟩ => ⟨ao, cap, he, hf.1, ho, hk⟩

theorem sum_at {ao : Option Addr} {n cap : Nat} {xs : List UInt8} {w : World} (hn : xs.length = n) (hm : n ≤ 100000000000) (hs : Sl w ao xs) :
    Calls Try.prog 85 #[.slice ao n cap] w fun e w' => e = .returned (.int .i64 (Pure.sum xs)) ∧ Kept [] w w' :=
  (sum_n ao n cap xs w hn (by omega) hs).mono fun e w' ⟨he, hb⟩ => ⟨he, Kept.of_below hb⟩

/-- A row of bytes that a call answers. -/
def RowB (w w' : World) (e : Ending) (xs : List UInt8) : Prop := ∃ ao cap, e = .returned (.slice ao xs.length cap) ∧ w'.ownsRow w.heap.size 5 1 (.slice ao xs.length cap) xs.length (bys xs)

set_option maxHeartbeats 1600000 in
set_option maxRecDepth 100000 in
theorem summed_ok {w0 w : World} {B : Nat} {xs : List UInt8} (h : Wq w0 w B xs) (hl : xs.length ≤ 10000000) :
    Calls Try.prog 54 #[.pointer (some ⟨B, 0, none⟩)] w fun e w' => RowB w w' e (sealed xs) ∧ Kept [B] w w' := by
  have hd := data_q h (by omega)
  have hs4 : Pure.sum xs < 256 ^ 4 := by unfold Pure.sum; omega
  have H := hide h
  have HL := hide hl
  have HS4 := hide hs4
  clear h hl hs4
  obtain ⟨m, hm⟩ : ∃ m, xs.length = m := ⟨_, rfl⟩
  rw [hm] at hd
  have HM := hide hm
  clear hm
  go_enter Try.func54, Try.ntmps54
  go_upto_region 2 with (go_at_call 84; refine hd.mono ?_; rintro r w1 ⟨ao1, cap1, rfl, hs1, ho1, hk1⟩; have H1 := hide (And.intro hs1 hk1); clear hd ho1 hs1 hk1)
  have hsm := sum_at (cap := cap1) HM.out (by have := HL.out; have := HM.out; omega) H1.out.1
  obtain ⟨v, hv⟩ : ∃ v, Pure.sum xs = v := ⟨_, rfl⟩
  rw [hv] at hsm
  have HV := hide hv
  clear hv
  go_upto_region 3 with (first
    | (go_at_call 85; refine hsm.mono ?_; rintro r w2 ⟨rfl, hk2⟩; have H2 := hide (H.out.later (H1.out.2.trans hk2 (by simp))); have hfx := fixed_q H2.out v 4 (by omega) (by omega) (by have := HS4.out; rw [HV.out] at this; exact this) (by have := HL.out; omega); have HK2 := hide (H1.out.2.trans hk2 (by simp)); clear hsm hk2)
    | (go_at_call 51; refine hfx.mono ?_; rintro r w3 ⟨rfl, hq3, hk3⟩; have H3 := hide (And.intro hq3 hk3); clear hfx hq3 hk3))
  have hd3 := data_q H3.out.1 (by have := HL.out; simp only [List.length_append, Pure.fix_len]; omega)
  have HE : Hid (sealed xs = xs ++ Pure.fix v 4) := by show _ = _; unfold sealed; rw [HV.out]
  generalize xs ++ Pure.fix v 4 = ys at hd3 HE H3
  obtain ⟨m3, hm3⟩ : ∃ m, ys.length = m := ⟨_, rfl⟩
  rw [hm3] at hd3
  have HM3 := hide hm3
  clear hm3
  go_wp2_with (go_at_call 84; refine hd3.mono ?_; rintro r w4 ⟨ao4, cap4, rfl, hs4, ho4, hk4⟩; have H4 := hide (And.intro ho4 hk4); clear hd3 ho4 hs4 hk4)
  go_ret
  have k1 : Kept [B] w w3 := (HK2.out.mono (by simp)).trans H3.out.2 (by simp)
  refine ⟨⟨ao4, cap4, ?_, ?_⟩, k1.trans H4.out.2 (by simp)⟩
  · rw [HE.out, HM3.out]; rfl
  · rw [HE.out, HM3.out]; exact own_base H4.out.1 k1.size

theorem Try.sliceIDo (W : World) (b o : Nat) (n : Nat) (hn : n ≤ 32) :
    (Instr.sliceAt 26 (.pointer (some ⟨b, o, none⟩)) none (some (.int .i64 n)) none).run Try.prog W = .ok (.slice (some ⟨b, o, none⟩) n 32) W := by
  have ha : Try.prog.arrayLen 26 = 32 := by kernel_rfl
  have hz : (sizeOf (Try.prog.elem 26)).run Try.prog W = .ok 1 W := by kernel_rfl
  have h := run_sliceAt_array_h (P := Try.prog) W 26 ⟨b, o, none⟩ (by kernel_rfl) .i64 n (by omega) (by rw [ha]; omega)
  rw [h, hz, ha]
  simp [slicedAt, Addr.add_mid]

theorem flat_snoc {L : List Wk} {k W : Nat} (h : k < L.length) : (L.take (k + 1)).flatMap (encW W) = (L.take k).flatMap (encW W) ++ encW W (L.getD k wk0) := by
  have e : L.getD k wk0 = L[k] := by simp [List.getD, List.getElem?_eq_getElem h]
  rw [e, List.take_succ_eq_append_getElem h, List.flatMap_append]
  simp only [List.flatMap_cons, List.flatMap_nil, List.append_nil]

set_option maxHeartbeats 6400000 in
set_option maxRecDepth 100000 in
theorem writeSignature_ok (s : Sig) (ao : Option Addr) (n cap : Nat) (w : World) (hI : SigIn w s ao n cap) (hM : May s) :
    Calls Try.prog 31 #[.agg (s.cells (.slice ao n cap)).toArray] w fun e w' => RowB w w' e (encS s) ∧ Kept [] w w' := by
  have hA := SigAt.new w s (.slice ao n cap)
  have hK : Kept [] w (w.alloc (.cells (s.cells (.slice ao n cap)).toArray 29)) := (Kept.refl [] w).alloc _
  obtain ⟨W, hW⟩ := Int.eq_ofNat_of_zero_le (show 0 ≤ s.width by have := hM.w1; omega)
  obtain ⟨Z, hZ⟩ := Int.eq_ofNat_of_zero_le (show 0 ≤ s.size by have := hM.z1; omega)
  obtain ⟨N, hN⟩ := Int.eq_ofNat_of_zero_le hM.l1
  have hW2 : W ≤ 32 := by have := hM.w2; omega
  have hZ2 : Z ≤ 4096 := by have := hM.z2; omega
  have hN2 : N ≤ 131072 := by have := hM.l2; omega
  have hn : n ≤ 2048 := by rw [← hI.len]; exact hM.few
  have HBK : Hid (∀ k, k < n → 0 ≤ (s.blocks.getD k wk0).sum ∧ (s.blocks.getD k wk0).sum ≤ 4294967295) := fun k hk => by
    have := hM.bks _ (wk_mem (L := s.blocks) (i := k) (by rw [hI.len]; exact hk))
    exact ⟨this.1, this.2.1⟩
  have c0 : (w.alloc (.cells (s.cells (.slice ao n cap)).toArray 29)).cell? ⟨w.heap.size, 0, none⟩ = some (.int .i64 W) := by rw [hA.cell (s.c0 _), hW]
  have c1 : (w.alloc (.cells (s.cells (.slice ao n cap)).toArray 29)).cell? ⟨w.heap.size, 1, none⟩ = some (.int .i64 Z) := by rw [hA.cell (s.c1 _), hZ]
  have c2 : (w.alloc (.cells (s.cells (.slice ao n cap)).toArray 29)).cell? ⟨w.heap.size, 2, none⟩ = some (.int .i64 N) := by rw [hA.cell (s.c2 _), hN]
  have c4 := hA.cell (s.cv (.slice ao n cap))
  have hbs := hA.sl.take W
  have hbl : (s.base.take W).length = W := by rw [List.length_take, s.hb]; omega
  have HI := hide hI
  have HE : Hid (encS s = sealed ([] ++ Pure.fix 83 1 ++ Pure.enc W ++ Pure.enc Z ++ Pure.enc N ++ s.base.take W ++ s.blocks.flatMap (encW W))) := by
    show _ = _
    unfold encS bodyS headS
    rw [hW, hZ, hN]
    simp only [Int.toNat_natCast]
    rfl
  have HLN : Hid (([] ++ Pure.fix 83 1 ++ Pure.enc W ++ Pure.enc Z ++ Pure.enc N ++ s.base.take W).length ≤ 60) := by
    have e1 := Pure.enc_len5 (v := W) (by omega)
    have e2 := Pure.enc_len5 (v := Z) (by omega)
    have e3 := Pure.enc_len5 (v := N) (by omega)
    show _ ≤ 60
    simp only [List.length_append, List.length_nil, Pure.fix_len, hbl]
    omega
  have HFB : Hid (∀ k, k ≤ n → ((s.blocks.take k).flatMap (encW W)).length ≤ 73728) := fun k hk => by
    rw [encWs_len hW2]
    have : (4 + W) * (s.blocks.take k).length ≤ 36 * 2048 := Nat.mul_le_mul (by omega) (by rw [List.length_take]; omega)
    omega
  have hzw := Try.zeroWriter
  have hzk := Try.zeroWeak
  clear hA hI hM hW hZ hN
  have hRef : Kept [] w (w.alloc (.cells (s.cells (.slice ao n cap)).toArray 29)) := hK
  have hG : w.heap.size < (w.alloc (.cells (s.cells (.slice ao n cap)).toArray 29)).heap.size := by simp
  obtain ⟨G, hGG⟩ : ∃ G, w.heap.size = G := ⟨_, rfl⟩
  rw [hGG] at c0 c1 c2 c4 hbs hG
  go_enter Try.func31, Try.ntmps31
  go_upto_region 1 with (fail)
  have HGG := hide hGG
  clear hGG hRef
  generalize w.alloc (.cells (s.cells (.slice ao n cap)).toArray 29) = w1 at *
  have hq := Wq.new hK
  have hka : Kept [] w1 (w1.alloc (.cells zeroW 84)) := (Kept.refl [] w1).alloc _
  obtain ⟨B, hB⟩ : ∃ B, w1.heap.size = B := ⟨_, rfl⟩
  rw [hB] at hq hG
  go_upto_region 2 with (fail)
  have HB := hide hB
  clear hB
  generalize w1.alloc (.cells zeroW 84) = w2 at *
  have hGB : G ≠ B := by omega
  replace c0 := hka.cellOf c0 (by simp)
  replace c1 := hka.cellOf c1 (by simp)
  replace c2 := hka.cellOf c2 (by simp)
  replace c4 := hka.cellOf c4 (by simp)
  replace hbs := hbs.kept hka (by simp)
  have HQ := hide (And.intro hq hka)
  have hf := fixed_q hq 83 1 (by omega) (by omega) (by omega) (by simp)
  clear hq hka
  have HC := hide (And.intro c0 (And.intro c1 (And.intro c2 (And.intro c4 hbs))))
  clear c0 c1 c2 c4 hbs
  go_upto_region 3 with (go_at_call 51; refine hf.mono ?_; rintro r w3 ⟨rfl, hq3, hk3⟩; clear hf)
  obtain ⟨c0, c1, c2, c4, hbs⟩ := HC.out
  clear HC
  replace c0 := hk3.cellOf c0 (by simpa using hGB)
  replace c1 := hk3.cellOf c1 (by simpa using hGB)
  replace c2 := hk3.cellOf c2 (by simpa using hGB)
  replace c4 := hk3.cellOf c4 (by simpa using hGB)
  replace hbs := hbs.kept hk3 (by rintro _ a ⟨⟩; simpa using hGB)
  have HK3 := hide hk3
  have hn1 := number_q hq3 W (by omega) (by simp [Pure.fix_len])
  have HC := hide (And.intro c1 (And.intro c2 (And.intro c4 (And.intro hbs c0))))
  clear c1 c2 c4 hbs hk3
  have HQ3 := hide hq3
  clear hq3
  go_upto_region 4 with (go_at_call 52; refine hn1.mono ?_; rintro r w4 ⟨rfl, hq4, hk4⟩; clear hn1)
  clear c0
  obtain ⟨c1, c2, c4, hbs, c0⟩ := HC.out
  clear HC
  replace c0 := hk4.cellOf c0 (by simpa using hGB)
  replace c1 := hk4.cellOf c1 (by simpa using hGB)
  replace c2 := hk4.cellOf c2 (by simpa using hGB)
  replace c4 := hk4.cellOf c4 (by simpa using hGB)
  replace hbs := hbs.kept hk4 (by rintro _ a ⟨⟩; simpa using hGB)
  have HK4 := hide (HK3.out.trans hk4 (by simp))
  have hl4 : ([] ++ Pure.fix 83 1 ++ Pure.enc W).length ≤ 100 := by have := Pure.enc_len5 (v := W) (by omega); simp [Pure.fix_len]; omega
  have hn1 := number_q hq4 Z (by omega) (by omega)
  have HC := hide (And.intro c0 (And.intro c2 (And.intro c4 hbs)))
  clear c0 c2 c4 hbs hk4 hq4 HQ3
  go_upto_region 5 with (go_at_call 52; refine hn1.mono ?_; rintro r w5 ⟨rfl, hq5, hk5⟩; clear hn1)
  clear c1
  obtain ⟨c0, c2, c4, hbs⟩ := HC.out
  clear HC
  replace c0 := hk5.cellOf c0 (by simpa using hGB)
  replace c2 := hk5.cellOf c2 (by simpa using hGB)
  replace c4 := hk5.cellOf c4 (by simpa using hGB)
  replace hbs := hbs.kept hk5 (by rintro _ a ⟨⟩; simpa using hGB)
  have HK5 := hide (HK4.out.trans hk5 (by simp))
  have hl5 : ([] ++ Pure.fix 83 1 ++ Pure.enc W ++ Pure.enc Z).length ≤ 200 := by have := Pure.enc_len5 (v := Z) (by omega); rw [List.length_append]; omega
  have hn1 := number_q hq5 N (by omega) (by omega)
  have HC := hide (And.intro c0 (And.intro c4 hbs))
  clear c0 c4 hbs hk5 hq5
  go_upto_region 6 with (go_at_call 52; refine hn1.mono ?_; rintro r w6 ⟨rfl, hq6, hk6⟩; clear hn1)
  clear c2
  obtain ⟨c0, c4, hbs⟩ := HC.out
  clear HC
  replace c0 := hk6.cellOf c0 (by simpa using hGB)
  replace c4 := hk6.cellOf c4 (by simpa using hGB)
  replace hbs := hbs.kept hk6 (by rintro _ a ⟨⟩; simpa using hGB)
  have HK6 := hide (HK5.out.trans hk6 (by simp))
  have hl6 : ([] ++ Pure.fix 83 1 ++ Pure.enc W ++ Pure.enc Z ++ Pure.enc N).length ≤ 300 := by have := Pure.enc_len5 (v := N) (by omega); rw [List.length_append]; omega
  have hn1 := raw_q hq6 (some ⟨G, 3, none⟩) W 32 (s.base.take W) hbl hbs (by rintro a ⟨⟩; exact hGB) hW2 (by omega) (by omega)
  have hsl := fun X => Try.sliceIDo X G 3 W hW2
  have HC := hide c4
  clear c4 hbs hk6 hq6
  go_upto_region 7 with (go_at_call 53; refine hn1.mono ?_; rintro r w7 ⟨rfl, hq7, hk7⟩; clear hn1)
  have c4 := hk7.cellOf HC.out (by simpa using hGB)
  replace c0 := hk7.cellOf c0 (by simpa using hGB)
  have HK7 := hide (HK6.out.trans hk7 (by simp))
  have HQ7 := hide hq7
  have HC0 := hide c0
  clear HC c0 hk7 hq7 hsl hl4 hl5 hl6
  generalize [] ++ Pure.fix 83 1 ++ Pure.enc W ++ Pure.enc Z ++ Pure.enc N ++ s.base.take W = hd at HQ7 HLN HE
  have HLT : Hid (G < B) := by show G < B; omega
  go_wp2
  go_loopw [24] (fun x wr => ∃ k : Nat, k ≤ n ∧ x = .int .i64 k ∧ Hid (Wq w wr B (hd ++ (s.blocks.take k).flatMap (encW W))) ∧ Hid (wr.cell? ⟨G, 0, none⟩ = some (.int .i64 W))) (fun x wr => n - (intOf x).toNat)
  case atStart => exact ⟨0, Nat.zero_le _, rfl, by show Wq _ _ _ _; simpa using HQ7.out, HC0⟩
  case round =>
    clear HQ7 HC0 c4 HK7 HK6 HK5 HK4 HK3 HQ
    obtain ⟨k, hk, rfl, HQ, HC⟩ := hrel
    have hlen : (hd ++ (s.blocks.take k).flatMap (encW W)).length ≤ 100000 := by have := HLN.out; have := HFB.out k hk; rw [List.length_append]; omega
    by_cases hlt : k < n
    · have hkl : k < s.blocks.length := by rw [HI.out.len]; exact hlt
      obtain ⟨b, off, rfl, hrg⟩ := (HI.out.at_.kept HQ.out.kp (by simp)) k hkl
      have HF : Hid ((s.blocks.take (k + 1)).flatMap (encW W) = (s.blocks.take k).flatMap (encW W) ++ encW W (s.blocks.getD k wk0)) := flat_snoc hkl
      obtain ⟨t1, t2⟩ := HBK.out k hlt
      generalize s.blocks.getD k wk0 = e at *
      have hnz := heap_new wr (.cells zeroK 45)
      have hil := Try.infoWk e
      have hia := Try.infoWkA e
      have hzs := zeroK_size e
      have hal := wk_all e
      have hkw := withWk_kept wr e
      have hrw := row_rangeK (withWk_row wr e)
      have hq := HQ.out.later hkw
      have c0 := hkw.cellOf HC.out (by simp)
      have hVB : wr.heap.size ≠ B := by have := HQ.out.lt; omega
      go_upto_region 10 with (first | refine wpList_load_mid rfl 45 (.tmp 26) rfl b (off + k * 33) rfl e.cells _ hrg Try.underlying45 rfl hil ?_ | refine wpList_store_rowTo rfl 45 (.tmp 5) (.tmp 27) rfl rfl wr.heap.size e.cells.toArray rfl rfl 45 zeroK hnz hia hzs hal ?_)
      have hW : (wr.alloc (.cells zeroK 45)).setRow wr.heap.size e.cells.toArray = withWk wr e := rfl
      rw [hW]
      have HKW := hide hkw
      clear hrg hia hzs hal hnz hW hkw HQ HC hil
      obtain ⟨V, hV⟩ : ∃ V, wr.heap.size = V := ⟨_, rfl⟩
      rw [hV] at hrw hVB ⊢
      clear hV
      generalize withWk wr e = W2 at *
      obtain ⟨S, hS⟩ := Int.eq_ofNat_of_zero_le t1
      have cs := hrw 0 _ e.su
      rw [Nat.zero_add, hS] at cs
      have hS2 : S < 256 ^ 4 := by omega
      have hf := fixed_q hq S 4 (by omega) (by omega) hS2 (by omega)
      have hes : e.sum.toNat = S := by omega
      have HES := hide hes
      have hG0 := HLT.out
      have H2 := hide (And.intro hrw c0)
      clear hq hS hS2 t1 t2 hes hG0 hrw c0
      go_upto_region 11 with (go_at_call 51; refine hf.mono ?_; rintro r w3 ⟨rfl, hq3, hk3⟩; clear hf)
      obtain ⟨hrw, c0⟩ := H2.out
      clear H2 cs
      have c0' := hk3.cellOf c0 (by have := HLT.out; simp; omega)
      have hrw3 : w3.rangeAt V 0 e.cells := fun j v hv => hk3.cellOf (hrw j v hv) (by simpa using hVB)
      have hsl3 := (wk_sl hrw3).take W
      have hbl3 : (e.id.take W).length = W := by rw [List.length_take, e.hid]; omega
      have hn1 := raw_q hq3 (some ⟨V, 0 + 1, none⟩) W 32 (e.id.take W) hbl3 hsl3 (by rintro a ⟨⟩; exact hVB) hW2 (by rw [List.length_append, Pure.fix_len]; omega) (by omega)
      have hsi := fun X => Try.sliceIDo X V 1 W hW2
      rw [Nat.zero_add] at hn1
      clear hrw c0 hrw3 hsl3 hbl3 hq3 hk3
      have HC3 := hide c0'
      go_wp2_with (go_at_call 53; refine hn1.mono ?_; rintro r w5 ⟨rfl, hq5, hk5⟩; have H5 := hide (And.intro hq5 hk5); clear hn1 hq5 hk5)
      go_roundw
      case rel =>
        refine ⟨k + 1, by omega, by go_num, ?_, H5.out.2.cellOf HC3.out (by have := HLT.out; simp; omega)⟩
        show Wq _ _ _ _
        rw [HF.out]
        unfold encW
        rw [HES.out]
        have := H5.out.1
        simp only [List.append_assoc] at this ⊢
        exact this
      case measure => simp [intOf]; omega
    · obtain rfl : k = n := by omega
      have hqe := HQ.out
      rw [List.take_of_length_le (by rw [HI.out.len]; exact Nat.le_refl _)] at hqe hlen
      have hsu := summed_ok hqe (by omega)
      have HGE := hide (And.intro hqe.kp hqe.ge)
      rw [← HE.out] at hsu
      clear HQ hqe HC
      go_wp2_with (go_at_call 54; refine hsu.mono ?_; rintro r w5 ⟨⟨ao5, cap5, rfl, ho5⟩, hk5⟩; have H5 := hide (And.intro ho5 hk5); clear hsu ho5 hk5)
      go_ret
      refine ⟨⟨ao5, cap5, rfl, own_base H5.out.1 HGE.out.1.size⟩, HGE.out.1.trans H5.out.2 (fun i hi hl => ?_)⟩
      simp only [List.mem_singleton] at hi
      have := HGE.out.2
      omega

end Go.Proofs.Ytmklodligplbaaa
