import Derived.Test.YtmklodligplbaaaGreatProg
import Derived.Test.YtmklodligplbaaaGreatClonem
import Derived.Test.YtmklodligplbaaaGreatMemm
import Derived.Test.YtmklodligplbaaaGreatD8dm
open Go.RowKit
set_option linter.unusedVariables false
set_option linter.unusedSimpArgs false
set_option maxRecDepth 100000
set_option maxHeartbeats 51200000
namespace Go.Proofs.YtmklodligplbaaaGreat
section
theorem sum_some (b off len cap : Nat) (xs : List UInt8) (w : World) (hm : len <= 9223372036854775807) (hb : b < w.heap.size) (hl : xs.length = len) (hc : ∀ i, i < xs.length -> w.cell? ⟨b, off + i, none⟩ = some (.int .u8 (xs.getD i 0).toNat)) :
  Calls Tryz.prog 93 #[.slice (some ⟨b, off, none⟩) len cap] w fun e w' => e = .returned (.int .i64 (Pure.sum xs)) ∧ Below w.heap.size w w' := by
 go_enter Tryz.func93, Tryz.ntmps93
 go_wp2
 have hB : Below w.heap.size w (w.alloc (.cells ((Pure.tbl.map (fun n : Nat => Value.int .u32 n)).toArray) 169)) := (Below.refl _ _).alloc (Nat.le_refl _) _
 have hT : ∀ i : Nat, i < 16 -> (w.alloc (.cells ((Pure.tbl.map (fun n : Nat => Value.int .u32 n)).toArray) 169)).cell? ⟨w.heap.size, i, none⟩ = some (.int .u32 (Pure.tb i)) := by
  intro i hi
  rw [World.cell?_alloc_new]
  simp [Pure.tb, List.getElem?_map, List.getElem?_eq_getElem (show i < Pure.tbl.length from hi)]
 have hC : ∀ i, i < len -> (w.alloc (.cells ((Pure.tbl.map (fun n : Nat => Value.int .u32 n)).toArray) 169)).cell? ⟨b, off + i, none⟩ = some (.int .u8 (xs.getD i 0).toNat) := by
  intro i hi
  rw [World.cell?_alloc_lt _ _ _ hb]; exact hc i (by omega)
 simp only [Pure.tbl, List.map] at hB hT hC
 generalize w.alloc _ = w1 at hB hT hC ⊢
 go_loop [4, 10] (fun r i => ∃ k : Nat, k <= len ∧ i = .int .i64 k ∧ r = .int .u32 (Pure.crc 4294967295 (xs.take k))) (fun _ i => len - (intOf i).toNat)
 case atStart => exact ⟨0, Nat.zero_le _, rfl, rfl⟩
 case round =>
  obtain ⟨k, hk, rfl, rfl⟩ := hrel
  have hx1 : Pure.crc 4294967295 (xs.take k) < 4294967296 := Pure.crc_lt (by omega) _
  by_cases hlt : k < len
  ·have hcell := hC k hlt
   have hcb : (xs.getD k 0).toNat < 256 := UInt8.toNat_lt _
   have HS : Hid (Pure.crc 4294967295 (xs.take (k + 1)) = Pure.crcStep (Pure.crc 4294967295 (xs.take k)) (xs.getD k 0).toNat) := by
    show _ = _
    rw [Pure.take_snoc xs 0 k (by omega), Pure.crc_snoc]
   generalize Pure.crc 4294967295 (xs.take k) = x at hx1 HS ⊢
   generalize (xs.getD k 0).toNat = c at hcell hcb HS
   have e1 := u32_xor_nat x c hx1 (by omega)
   have b1 := Pure.xor_lt32 hx1 (show c < 4294967296 by omega)
   have e2 : bits .and .u32 ((x ^^^ c : Nat) : Int) 15 = (((x ^^^ c) % 16 : Nat) : Int) := by rw [<-nat_mask4]; exact u32_and_nat (x ^^^ c) 15 b1 (by omega)
   have e3 : bits .xor .u32 ((x ^^^ c : Nat) / 16 : Int) (Pure.tb ((x ^^^ c) % 16)) = (Pure.nib (x ^^^ c) : Nat) := by
    rw [show ((x ^^^ c : Nat) / 16 : Int) = (((x ^^^ c) / 16 : Nat) : Int) by omega]
    exact u32_xor_nat _ _ (by omega) (Pure.tb_lt _)
   have HS' : Hid (Pure.crc 4294967295 (xs.take (k + 1)) = Pure.nib (Pure.nib (x ^^^ c))) := HS
   clear HS
   have b2 := Pure.nib_lt b1
   have hT1 := hT ((x ^^^ c) % 16) (by omega)
   generalize x ^^^ c = y at e1 b1 e2 e3 b2 hT1 HS'
   have e4 : bits .and .u32 (Pure.nib y : Int) 15 = ((Pure.nib y % 16 : Nat) : Int) := by rw [<-nat_mask4]; exact u32_and_nat _ 15 b2 (by omega)
   have e5 : bits .xor .u32 (Pure.nib y / 16 : Int) (Pure.tb (Pure.nib y % 16)) = (Pure.nib (Pure.nib y) : Nat) := by
    rw [show (Pure.nib y / 16 : Int) = ((Pure.nib y / 16 : Nat) : Int) by omega]
    exact u32_xor_nat _ _ (by omega) (Pure.tb_lt _)
   have hT2 := hT (Pure.nib y % 16) (by omega)
   clear hC hc hB hT
   go_wp2
   go_round
   case rel => exact ⟨k + 1, by omega, by go_num, by rw [HS'.out]⟩
   case measure => simp [intOf]; omega
  ·have HT : Hid (xs.take k = xs) := List.take_of_length_le (by omega)
   have hsg : IntKind.u32.signed = false := rfl
   have e6 : bits .xor .u32 IntKind.u32.max (Pure.crc 4294967295 (xs.take k)) = (Pure.sum xs : Nat) := by
    have := u32_xor_nat 4294967295 _ (by omega) hx1
    rw [Pure.ones_xor hx1, HT.out] at this
    rw [HT.out]
    exact this
   have hsl : Pure.sum xs <= 4294967295 := Nat.sub_le _ _
   clear hC hc hT
   generalize Pure.crc 4294967295 (xs.take k) = x at e6 ⊢
   go_wp2
   go_ret
   exact ⟨rfl, hB⟩
theorem sum_empty (ao : Option Addr) (cap : Nat) (w : World) :
  Calls Tryz.prog 93 #[.slice ao 0 cap] w fun e w' => e = .returned (.int .i64 (Pure.sum [])) ∧ Below w.heap.size w w' := by
 have hsg : IntKind.u32.signed = false := rfl
 have e6 : bits .xor .u32 IntKind.u32.max 4294967295 = 0 := rfl
 go_enter Tryz.func93, Tryz.ntmps93
 go_wp2
 go_loop [4, 10] (fun r i => i = .int .i64 0 ∧ r = .int .u32 4294967295) (fun _ i => 0)
 case atStart => exact ⟨rfl, rfl⟩
 case round =>
  obtain ⟨rfl, rfl⟩ := hrel
  go_wp2
  go_ret
  exact ⟨rfl, (Below.refl _ _).alloc (Nat.le_refl _) _⟩
theorem sum_any (ao : Option Addr) (cap : Nat) (xs : List UInt8) (w : World) (hm : xs.length <= 9223372036854775807) (h : Sl w ao xs) :
  Calls Tryz.prog 93 #[.slice ao xs.length cap] w fun e w' => e = .returned (.int .i64 (Pure.sum xs)) ∧ Below w.heap.size w w' := by
 by_cases hn : xs = []
 ·subst hn
  exact sum_empty ao cap w
 ·obtain ⟨b, off, rfl, hb, hc⟩ := h.open hn
  exact sum_some b off xs.length cap xs w hm hb rfl hc
theorem sum_n (ao : Option Addr) (n cap : Nat) (xs : List UInt8) (w : World) (hn : xs.length = n) (hm : xs.length <= 9223372036854775807) (h : Sl w ao xs) :
  Calls Tryz.prog 93 #[.slice ao n cap] w fun e w' => e = .returned (.int .i64 (Pure.sum xs)) ∧ Below w.heap.size w w' := by
 subst hn
 exact sum_any ao cap xs w hm h
end

section
open Dlt
def zeroW : Array Value := (wrow 0 0 none (List.replicate 64 0) 0).toArray
theorem Tryz.zeroWriter (W : World) : (zeroValue 118).run Tryz.prog W = .ok (.agg zeroW) W := by kernel_rfl
theorem wr_zero (w : World) : Wr (w.alloc (.cells zeroW 118)) w.heap.size [] [] := by
 refine ⟨⟨none, List.replicate 64 0, ⟨?_, by simp⟩, by simp, .nil⟩, by simp⟩
 rw [heap_new]
 rfl
structure Wq (w0 w : World) (B : Nat) (xs : List UInt8) : Prop where
 ex : ∃ bs, Wr w B bs xs ∧ ∀ g, g ∈ bs -> w0.heap.size <= g
 kp : Kept [] w0 w
 ge : w0.heap.size <= B
theorem Wq.lt {w0 w : World} {B : Nat} {xs : List UInt8} (h : Wq w0 w B xs) : B < w.heap.size := by
 obtain ⟨bs, h1, _⟩ := h.ex
 exact h1.lt
theorem Wq.new {w0 w : World} (h : Kept [] w0 w) : Wq w0 (w.alloc (.cells zeroW 118)) w.heap.size [] := ⟨⟨[], wr_zero w, by simp⟩, h.alloc _, h.size⟩
theorem Wq.later {w0 w w' : World} {B : Nat} {xs : List UInt8} (h : Wq w0 w B xs) (hk : Kept [] w w') : Wq w0 w' B xs := by
 obtain ⟨bs, h1, h2⟩ := h.ex
 exact ⟨⟨bs, h1.kept hk (by simp) (by simp), h2⟩, h.kp.tr hk, h.ge⟩
theorem Wq.wrote {w0 w w' : World} {B : Nat} {bs : List Nat} {xs ys : List UInt8} (h : Wq w0 w B xs) (hb : ∀ g, g ∈ bs -> w0.heap.size <= g) (hw : Wrote w w' B bs ys) : Wq w0 w' B ys ∧ Kept [B] w w' := by
 obtain ⟨bs', h1, h2, h3⟩ := hw
 refine ⟨⟨⟨bs', h1, fun g hg => ?_⟩, h.kp.trans h2 (fun i hi hl => ?_), h.ge⟩, h2⟩
 ·rcases h3 g hg with h | h'
  ·exact hb g h
  ·exact Nat.le_trans h.kp.size h'
 ·simp only [List.mem_singleton] at hi
  have := h.ge
  omega
theorem number_q {w0 w : World} {B : Nat} {ys : List UInt8} (h : Wq w0 w B ys) (v : Nat) (hv : v <= 2147483647) (hl : ys.length <= 100000000000) :
  Calls Tryz.prog 68 #[.pointer (some ⟨B, 0, none⟩), .int .i64 v] w fun e w' => e = .returned (.tuple #[]) ∧ Wq w0 w' B (ys ++ Pure.enc v) ∧ Kept [B] w w' := by
 obtain ⟨bs, h1, h2⟩ := h.ex
 exact (wnumber_ok h1 v hv (by omega)).mono fun e w' ⟨he, hw⟩ => ⟨he, h.wrote h2 hw⟩
theorem fixed_q {w0 w : World} {B : Nat} {ys : List UInt8} (h : Wq w0 w B ys) (v n : Nat) (h1 : 1 <= n) (h4 : n <= 4) (hv : v < 256 ^ n) (hl : ys.length <= 100000000000) :
  Calls Tryz.prog 67 #[.pointer (some ⟨B, 0, none⟩), .int .i64 v, .int .i64 n] w fun e w' => e = .returned (.tuple #[]) ∧ Wq w0 w' B (ys ++ Pure.fix v n) ∧ Kept [B] w w' := by
 obtain ⟨bs, g1, g2⟩ := h.ex
 exact (wfixed_ok g1 v n h1 h4 hv (by omega)).mono fun e w' ⟨he, hw⟩ => ⟨he, h.wrote g2 hw⟩
theorem raw_q {w0 w : World} {B : Nat} {ys : List UInt8} (h : Wq w0 w B ys) (ao : Option Addr) (n cap : Nat) (xs : List UInt8) (hn : xs.length = n) (hs : Sl w ao xs) (hfar : ∀ a, ao = some a -> a.block ≠ B) (hlc : n <= cap) (hl : ys.length <= 100000000000) (hm : n <= 100000000000) :
  Calls Tryz.prog 69 #[.pointer (some ⟨B, 0, none⟩), .slice ao n cap] w fun e w' => e = .returned (.tuple #[]) ∧ Wq w0 w' B (ys ++ xs) ∧ Kept [B] w w' := by
 obtain ⟨bs, g1, g2⟩ := h.ex
 exact (wraw_ok g1 ao n cap xs hn hs hfar (by omega) (by omega)).mono fun e w' ⟨he, hw⟩ => ⟨he, h.wrote g2 hw⟩
theorem text_q {w0 w : World} {B : Nat} {ys : List UInt8} (h : Wq w0 w B ys) (ao : Option Addr) (n cap : Nat) (xs : List UInt8) (hn : xs.length = n) (hs : Sl w ao xs) (hfar : ∀ a, ao = some a -> a.block ≠ B) (hlc : n <= cap) (hl : ys.length <= 100000000000) (hm : n <= 2147483647) :
  Calls Tryz.prog 98 #[.pointer (some ⟨B, 0, none⟩), .slice ao n cap] w fun e w' => e = .returned (.tuple #[]) ∧ Wq w0 w' B (ys ++ (Pure.enc xs.length ++ xs)) ∧ Kept [B] w w' := by
 obtain ⟨bs, g1, g2⟩ := h.ex
 rw [<-List.append_assoc]
 exact (wtext_ok g1 ao n cap xs hn hs hfar (by omega) (by omega) (by omega)).mono fun e w' ⟨he, hw⟩ => ⟨he, h.wrote g2 hw⟩
theorem data_q {w0 w : World} {B : Nat} {ys : List UInt8} (h : Wq w0 w B ys) (hl : ys.length <= 100000000000) :
  Calls Tryz.prog 99 #[.pointer (some ⟨B, 0, none⟩)] w fun e w' => ∃ ao cap, e = .returned (.tuple #[.slice ao ys.length cap, .int .i64 0]) ∧ Sl w' ao ys ∧ w'.ownsRow w.heap.size 5 1 (.slice ao ys.length cap) ys.length (bys ys) ∧ Kept [] w w' := by
 obtain ⟨bs, g1, g2⟩ := h.ex
 exact (wdata_own g1 (by omega)).mono fun e w' ⟨ao, cap, he, hf, _, hk, ho⟩ => ⟨ao, cap, he, hf.1, ho, hk⟩
theorem sum_at {ao : Option Addr} {n cap : Nat} {xs : List UInt8} {w : World} (hn : xs.length = n) (hm : n <= 100000000000) (hs : Sl w ao xs) :
  Calls Tryz.prog 93 #[.slice ao n cap] w fun e w' => e = .returned (.int .i64 (Pure.sum xs)) ∧ Kept [] w w' :=
 (sum_n ao n cap xs w hn (by omega) hs).mono fun e w' ⟨he, hb⟩ => ⟨he, Kept.of_below hb⟩
def RowB (w w' : World) (e : Ending) (xs : List UInt8) : Prop := ∃ ao cap, e = .returned (.slice ao xs.length cap) ∧ w'.ownsRow w.heap.size 5 1 (.slice ao xs.length cap) xs.length (bys xs)
theorem summed_ok {w0 w : World} {B : Nat} {xs : List UInt8} (h : Wq w0 w B xs) (hl : xs.length <= 10000000) :
  Calls Tryz.prog 71 #[.pointer (some ⟨B, 0, none⟩)] w fun e w' => RowB w w' e (sealed xs) ∧ Kept [B] w w' := by
 have hd := data_q h (by omega)
 have hs4 : Pure.sum xs < 256 ^ 4 := by unfold Pure.sum; omega
 have H := hide h
 have HL := hide hl
 have HS4 := hide hs4
 clear h hl hs4
 obtain ⟨m, hm⟩ := nm (xs.length)
 rw [hm] at hd
 have HM := hide hm
 clear hm
 go_enter Tryz.func71, Tryz.ntmps71
 go_upto_region 2 with (go_at_call 99; refine hd.mono ?_; rintro r w1 ⟨ao1, cap1, rfl, hs1, ho1, hk1⟩; have H1 := hide (ai hs1 hk1); clear hd ho1 hs1 hk1)
 have hsm := sum_at (cap := cap1) HM.out (by have := HL.out; have := HM.out; omega) H1.out.1
 obtain ⟨v, hv⟩ := nm (Pure.sum xs)
 rw [hv] at hsm
 have HV := hide hv
 clear hv
 go_upto_region 3 with (first
  | (go_at_call 93; refine hsm.mono ?_; rintro r w2 ⟨rfl, hk2⟩; have H2 := hide (H.out.later (H1.out.2.tr hk2)); have hfx := fixed_q H2.out v 4 (by omega) (by omega) (by have := HS4.out; rw [HV.out] at this; exact this) (by have := HL.out; omega); have HK2 := hide (H1.out.2.tr hk2); clear hsm hk2)
  | (go_at_call 67; refine hfx.mono ?_; rintro r w3 ⟨rfl, hq3, hk3⟩; have H3 := hide (ai hq3 hk3); clear hfx hq3 hk3))
 have hd3 := data_q H3.out.1 (by have := HL.out; simp only [List.length_append, Pure.fix_len]; omega)
 have HE : Hid (sealed xs = xs ++ Pure.fix v 4) := by show _ = _; unfold sealed; rw [HV.out]
 generalize xs ++ Pure.fix v 4 = ys at hd3 HE H3
 obtain ⟨m3, hm3⟩ : ∃ m, ys.length = m := ⟨_, rfl⟩
 rw [hm3] at hd3
 have HM3 := hide hm3
 clear hm3
 go_wp2_with (go_at_call 99; refine hd3.mono ?_; rintro r w4 ⟨ao4, cap4, rfl, hs4, ho4, hk4⟩; have H4 := hide (ai ho4 hk4); clear hd3 ho4 hs4 hk4)
 go_ret
 have k1 : Kept [B] w w3 := (HK2.out.mono (by simp)).tr H3.out.2
 refine ⟨⟨ao4, cap4, ?_, ?_⟩, k1.tr H4.out.2⟩
 ·rw [HE.out, HM3.out]; rfl
 ·rw [HE.out, HM3.out]; exact own_base H4.out.1 k1.size
theorem Tryz.sliceIDo (W : World) (b o : Nat) (n : Nat) (hn : n <= 32) :
  (Instr.sliceAt 26 (.pointer (some ⟨b, o, none⟩)) none (some (.int .i64 n)) none).run Tryz.prog W = .ok (.slice (some ⟨b, o, none⟩) n 32) W := by
 have ha : Tryz.prog.arrayLen 26 = 32 := by kernel_rfl
 have hz : (sizeOf (Tryz.prog.elem 26)).run Tryz.prog W = .ok 1 W := by kernel_rfl
 have h := run_sliceAt_array_h (P := Tryz.prog) W 26 ⟨b, o, none⟩ (by kernel_rfl) .i64 n (by omega) (by rw [ha]; omega)
 rw [h, hz, ha]
 simp [slicedAt, Addr.add_mid]
end

end Go.Proofs.YtmklodligplbaaaGreat
