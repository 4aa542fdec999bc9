import Derived.Test.YtmklodligplbaabGreatM18ko
open Go.RowKit
set_option linter.unusedVariables false
set_option linter.unusedSimpArgs false
set_option maxRecDepth 100000
set_option maxHeartbeats 0
namespace Go.Proofs.YtmklodligplbaabGreat
open Dlt
theorem cy_in8w {w : World} {g n cap : Nat} {xs : List UInt8} (h : Cy w g n cap xs) (hc : cap <= 9223372036854775807) : InB8 w (some ⟨g, 0, none⟩) n cap xs := ⟨h.len, by have := h.cap; omega, by have := h.cap; omega, h.sl, fun e => by cases e⟩
theorem ownB_capw {w : World} {base : Nat} {ao : Option Addr} {n cap : Nat} {xs : List UInt8} (h : OwnB w base (.slice ao n cap) xs) : cap <= 9223372036854775807 := by
 obtain ⟨_, _, e, _, _, _, h6, _⟩ := h.shape
 injection e with _ _ e
 subst e
 exact h6
theorem applyB_lenw (bs xs : List UInt8) : (applyB bs xs).length <= 131072 := by
 unfold applyB
 split
 ·rename_i h0
  cases hd : decD xs with
  | none => simp
  | some d =>
   have hok := (decD_some hd).1
   unfold applyE at h0
   split at h0; · cases h0
   rw [hd] at h0
   simp only at h0
   split at h0
   ·rename_i hB
    show (doIs d.size bs d.steps).length <= _
    rw [doIs_len (by rw [hB.1]; exact hok.ins), hok.sum]
    exact hok.t2
   ·cases h0
 ·simp
theorem appW {w : World} {B : Nat} {po : Option Addr} {q pc : Nat} {ys : List UInt8} (h : OwnB w B (.slice po q pc) ys) (hb : B <= w.heap.size) (so : Option Addr) (m sc : Nat) (zs : List UInt8) (hm : zs.length = m) (hs : Sl w so zs) (h0 : so = none -> zs = [] ∧ sc = 0) (hl : q + m <= 200000000000000) :
  ∃ po' pc' w', (Builtin.append_ #[27, 27] 27 #[.slice po q pc, .slice so m sc]).run Tryz.prog w = .ok (.slice po' (q + m) pc') w' ∧ OwnB w' B (.slice po' (q + m) pc') (ys ++ zs) ∧ Kept (Value.slice po q pc).ownBlock.toList w w' := by
 have hl1 := own_len h
 subst hm
 obtain ⟨i0, hi, hz0, hz1, hz2⟩ := info_parts Tryz.infoByte9
 cases so with
 | none =>
  obtain ⟨rfl, rfl⟩ := h0 rfl
  refine ⟨po, pc, w, run_append_owned_none (P := Tryz.prog) (w := w) B 27 27 5 i0 1 Tryz.underlying27 hi _ ys.length (bys ys) h, by rw [List.append_nil]; exact h, Kept.refl _ _⟩
 | some ad =>
  obtain ⟨v', w', hrun, h1', h2, h3⟩ := run_append_own_wide (P := Tryz.prog) w B 27 27 5 i0 (.int .u8 0) 1 1 Tryz.underlying27 hi hz0 hz1 hz2 rfl (by omega) (.slice po q pc) ys.length (bys ys) h ad zs.length sc (bys zs) (by rw [bys_length]; omega)
   (fun j u hj => by
    obtain ⟨hj', rfl⟩ := bys_get hj
    obtain ⟨b', off', e', hc⟩ := hs j hj'
    cases e'
    rw [Addr.add_mid]; exact hc) (bys_oneCell zs) (by unfold maxLen; omega) (by omega) hb
  have ho : OwnB w' B v' (ys ++ zs) := by
   unfold OwnB
   rw [List.length_append, bys_append]
   exact h1'
  obtain ⟨po', pc', rfl, _⟩ := own_shape ho
  rw [List.length_append, hl1] at hrun ho
  exact ⟨po', pc', w', hrun, ho, (Kept.refl _ w).grown h2 (fun k hk _ => by simp [hk])⟩
theorem ownd_out (width size : Int) (ao : Option Addr) (n cap : Nat) (length nn : Int) (so : Option Addr) (sn sc : Nat) (honest : Bool) (xs : List UInt8) (L : List Ta) (w : World) (h1 : InB w ao n cap xs) (hg : ¬ (0 <= length ∧ length <= 2147483647 ∧ 0 <= nn ∧ nn <= 2147483647 ∧ 0 <= width ∧ width <= 32 ∧ 0 <= size ∧ size <= 2147483647)) :
  Calls Tryz.prog 5 #[.int .i64 width, .int .i64 size, .slice ao n cap, .int .i64 length, .int .i64 nn, .slice so sn sc, .bool honest] w fun e w' => e = .returned (.bool true) ∧ Below w.heap.size w w' := by
 have hkn := known18_ok w
 by_cases b0 : length < 0
 ·clear hg
  as_aux_lemma =>
  go_enter Tryz.func5, Tryz.ntmps5
  go_wp2_with (go_at_call 7; refine hkn.mono ?_; rintro r w1 ⟨rfl, hk1⟩; have HK1 := hide hk1; clear hkn hk1)
  go_ret
  exact ⟨rfl, HK1.out.below0⟩
 by_cases b1 : 2147483647 < length
 ·clear hg
  as_aux_lemma =>
  go_enter Tryz.func5, Tryz.ntmps5
  go_wp2_with (go_at_call 7; refine hkn.mono ?_; rintro r w1 ⟨rfl, hk1⟩; have HK1 := hide hk1; clear hkn hk1)
  go_ret
  exact ⟨rfl, HK1.out.below0⟩
 by_cases b2 : nn < 0
 ·clear hg
  as_aux_lemma =>
  go_enter Tryz.func5, Tryz.ntmps5
  go_wp2_with (go_at_call 7; refine hkn.mono ?_; rintro r w1 ⟨rfl, hk1⟩; have HK1 := hide hk1; clear hkn hk1)
  go_ret
  exact ⟨rfl, HK1.out.below0⟩
 by_cases b3 : 2147483647 < nn
 ·clear hg
  as_aux_lemma =>
  go_enter Tryz.func5, Tryz.ntmps5
  go_wp2_with (go_at_call 7; refine hkn.mono ?_; rintro r w1 ⟨rfl, hk1⟩; have HK1 := hide hk1; clear hkn hk1)
  go_ret
  exact ⟨rfl, HK1.out.below0⟩
 by_cases b4 : width < 0
 ·clear hg
  as_aux_lemma =>
  go_enter Tryz.func5, Tryz.ntmps5
  go_wp2_with (go_at_call 7; refine hkn.mono ?_; rintro r w1 ⟨rfl, hk1⟩; have HK1 := hide hk1; clear hkn hk1)
  go_ret
  exact ⟨rfl, HK1.out.below0⟩
 by_cases b5 : 32 < width
 ·clear hg
  as_aux_lemma =>
  go_enter Tryz.func5, Tryz.ntmps5
  go_wp2_with (go_at_call 7; refine hkn.mono ?_; rintro r w1 ⟨rfl, hk1⟩; have HK1 := hide hk1; clear hkn hk1)
  go_ret
  exact ⟨rfl, HK1.out.below0⟩
 by_cases b6 : size < 0
 ·clear hg
  as_aux_lemma =>
  go_enter Tryz.func5, Tryz.ntmps5
  go_wp2_with (go_at_call 7; refine hkn.mono ?_; rintro r w1 ⟨rfl, hk1⟩; have HK1 := hide hk1; clear hkn hk1)
  go_ret
  exact ⟨rfl, HK1.out.below0⟩
 by_cases b7 : 2147483647 < size
 ·clear hg
  as_aux_lemma =>
  go_enter Tryz.func5, Tryz.ntmps5
  go_wp2_with (go_at_call 7; refine hkn.mono ?_; rintro r w1 ⟨rfl, hk1⟩; have HK1 := hide hk1; clear hkn hk1)
  go_ret
  exact ⟨rfl, HK1.out.below0⟩
 exact absurd ⟨by omega, by omega, by omega, by omega, by omega, by omega, by omega, by omega⟩ hg
theorem ownd_in (W Z : Nat) (ao : Option Addr) (n cap : Nat) (N0 M0 : Nat) (so : Option Addr) (sn sc : Nat) (honest : Bool) (xs : List UInt8) (L : List Ta) (w : World) (h1 : InB w ao n cap xs) (h2 : TasAt w so L) (hL : L.length = sn) (hsn : sn <= 9223372036854775807) (hW : W <= 32) (hZ : Z <= 2147483647) (hN : N0 <= 2147483647) (hM : M0 <= 2147483647) :
  Calls Tryz.prog 5 #[.int .i64 W, .int .i64 Z, .slice ao n cap, .int .i64 N0, .int .i64 M0, .slice so sn sc, .bool honest] w fun e w' => e = .returned (.bool true) ∧ Below w.heap.size w w' := by
 have hkn := known18_ok w
 have hz := Tryz.zeroID
 have hz3 := Tryz.zeroStp
 have hb0 : ∀ W, (Instr.build 23 #[]).run Tryz.prog W = .ok (.agg zero32) W := fun W => by kernel_rfl
 have hnm : n <= 140737488351232 := Nat.le_trans h1.le h1.max
 have H1 := hide h1
 have H2 := hide h2
 have HL := hide hL
 clear h1 h2 hL
 go_enter Tryz.func5, Tryz.ntmps5
 go_upto_region 3 with (go_at_call 7; refine hkn.mono ?_; rintro r w1 ⟨rfl, hk1⟩; have HK1 := hide hk1; clear hkn hk1)
 have b0 : ¬ (N0 : Int) < 0 := by omega
 have b1 : ¬ 2147483647 < (N0 : Int) := by omega
 have b2 : ¬ (M0 : Int) < 0 := by omega
 have b3 : ¬ 2147483647 < (M0 : Int) := by omega
 have b4 : ¬ (W : Int) < 0 := by omega
 have b5 : ¬ 32 < (W : Int) := by omega
 have b6 : ¬ (Z : Int) < 0 := by omega
 have b7 : ¬ 2147483647 < (Z : Int) := by omega
 go_upto_region 5 with (fail)
 clear b0 b1 b2 b3 b4 b5 b6 b7
 have HIN : Hid (Kept [] w w1 ∧ (∀ x, x ∈ L.take 0 -> TaOk x) ∧ mch (L.take 0) = 0) := ⟨HK1.out, fun x hx => by simp at hx, rfl⟩
 clear HK1
 go_wp2
 go_loopw [15, 16] (fun x y wr => ∃ (i mu : Nat), i <= sn ∧ mu <= 3000000 ∧ x = .int .i64 mu ∧ y = .int .i64 i ∧ Hid (Kept [] w wr ∧ (∀ x, x ∈ L.take i -> TaOk x) ∧ mch (L.take i) = mu)) (fun x y wr => sn - (intOf y).toNat)
 case atStart => exact ⟨0, 0, by omega, by omega, rfl, rfl, HIN⟩
 case round =>
  clear HIN
  obtain ⟨i, mu, hi, hmu, rfl, rfl, HP⟩ := hrel
  by_cases hlt : i < sn
  ·as_aux_lemma =>
   have hlt1 : (i : Int) < (sn : Int) := by omega
   obtain ⟨x, hx⟩ : ∃ x, L[i]? = some x := ⟨_, List.getElem?_eq_getElem (by rw [HL.out]; exact hlt)⟩
   obtain ⟨⟨ga, oa, rfl, hra⟩, hxo⟩ := (H2.out.kept HP.out.1) i x hx
   have a0 : wr.cell? ⟨ga, oa + i * 3, none⟩ = some (.int .i64 x.f) := by have := hra 0 _ rfl; simpa using this
   have a1 : wr.cell? ⟨ga, oa + i * 3 + 1, none⟩ = some (.int .i64 x.c) := hra 1 _ rfl
   have a2 : wr.cell? ⟨ga, oa + i * 3 + 2, none⟩ = some (.slice x.ao x.n x.cap) := hra 2 _ rfl
   have hxn : x.n <= 140737488351232 := Nat.le_trans hxo.inb.le hxo.inb.max
   have HTK := hide (mch_take hx)
   have HTL : Hid (L.take (i + 1) = L.take i ++ [x]) := by
    obtain ⟨hi, e⟩ := List.getElem?_eq_some_iff.1 hx
    show _ = _
    rw [List.take_succ_eq_append_getElem hi, e]
   have HXE : Hid (∀ f c (n : Nat), x.f = f -> x.c = c -> x.n = n -> 0 <= f -> 0 <= c -> f <= 2147483647 -> c <= 2147483647 -> n <= 3000000 -> TaOk x) := fun f c n e1 e2 e3 b1 b2 b3 b4 b5 => ⟨by omega, by omega, by omega, by omega, by omega⟩
   obtain ⟨f, hf⟩ := nm (x.f)
   obtain ⟨c, hc⟩ := nm (x.c)
   obtain ⟨xn, hn⟩ := nm (x.n)
   rw [hf] at a0
   rw [hc] at a1
   rw [hn] at a2 hxn HTK
   have HE := hide (HXE.out f c xn hf hc hn)
   clear hra hxo hx hf hc hn HXE
   by_cases b0 : f < 0
   ·as_aux_lemma =>
    go_wp2
    go_ret
    exact ⟨rfl, HP.out.1.below0⟩
   by_cases b1 : c < 0
   ·as_aux_lemma =>
    go_wp2
    go_ret
    exact ⟨rfl, HP.out.1.below0⟩
   by_cases b2 : 2147483647 < f
   ·as_aux_lemma =>
    go_wp2
    go_ret
    exact ⟨rfl, HP.out.1.below0⟩
   by_cases b3 : 2147483647 < c
   ·as_aux_lemma =>
    go_wp2
    go_ret
    exact ⟨rfl, HP.out.1.below0⟩
   by_cases b4 : 3000000 < xn
   ·have b5 : (3000000 : Int) < (xn : Int) := by omega
    as_aux_lemma =>
    go_wp2
    go_ret
    exact ⟨rfl, HP.out.1.below0⟩
   have b5 : ¬ (3000000 : Int) < (xn : Int) := by omega
   have HOK := hide (HE.out (by omega) (by omega) (by omega) (by omega) (by omega))
   have hw1 : IntKind.i64.wrap ((mu : Int) + 1) = (mu : Int) + 1 := wrap64 (by omega) (by omega)
   have hw2 : IntKind.i64.wrap ((mu : Int) + 1 + (xn : Int)) = (mu : Int) + 1 + (xn : Int) := wrap64 (by omega) (by omega)
   clear HE
   by_cases b6 : 3000000 < mu + 1 + xn
   ·have b7 : (3000000 : Int) < (mu : Int) + 1 + (xn : Int) := by omega
    as_aux_lemma =>
    go_wp2
    go_ret
    exact ⟨rfl, HP.out.1.below0⟩
   have b7 : ¬ (3000000 : Int) < (mu : Int) + 1 + (xn : Int) := by omega
   have HN : Hid (Kept [] w wr ∧ (∀ x, x ∈ L.take (i + 1) -> TaOk x) ∧ mch (L.take (i + 1)) = mu + 1 + xn) := by
    refine ⟨HP.out.1, fun y hy => ?_, by rw [HTK.out, HP.out.2.2]; omega⟩
    rw [HTL.out, List.mem_append, List.mem_singleton] at hy
    rcases hy with hy | rfl
    ·exact HP.out.2.1 y hy
    ·exact HOK.out
   clear HOK HTK HTL HP
   go_wp2
   go_roundw
   case rel => exact ⟨i + 1, mu + 1 + xn, by omega, by omega, by go_num, by go_num, HN⟩
   case measure => simp [intOf]; omega
  ·obtain rfl : i = sn := by omega
   have HOK : Hid (∀ x, x ∈ L -> TaOk x) := by have h := HP.out.2.1; rw [List.take_of_length_le (by rw [HL.out]; exact Nat.le_refl _)] at h; exact h
   have HMU : Hid (mch L = mu) := by have h := HP.out.2.2; rw [List.take_of_length_le (by rw [HL.out]; exact Nat.le_refl _)] at h; exact h
   have HKr := hide HP.out.1
   clear HP
   have hs3 : i <= 3000000 := by have h := len_mch L; rw [HL.out, HMU.out] at h; omega
   have hlt1 : ¬ (i : Int) < (i : Int) := by omega
   have hof := rof_ok (W : Int) ao n cap xs wr H1.out.len hnm (H1.out.sl.kept HKr.out (by simp)) H1.out.nil
   obtain ⟨I0, hI0⟩ := nm (Sha.ident (W : Int) xs)
   have hI0l : I0.length = 32 := by rw [<-hI0]; exact Sha.ident_len _ _
   have HI0 : Hid (I0.length = 32) := hI0l
   rw [hI0] at hof
   have hile0 := idlen hI0l
   clear hI0 hI0l
   go_upto_region 15 with (first
    | (go_at_call 10; refine hof.mono ?_; rintro r wa ⟨rfl, hka⟩; have Kwa := hide (HKr.out.tr hka); have hoz := heap_new wa (.cells zero32 23); have hia : (Tryz.prog.info? 23).map (·.size) = some (bys I0).toArray.size := (by have h := hile0; simpa using h); have hzs : zero32.size = (bys I0).toArray.size := (by have h := HI0.out; simp [bys_length, h]; rfl); have hal := all_oneCell_toArray (bys_oneCell I0); clear hof hka)
    | refine wpList_store_rowTo rfl 23 (.tmp 17) (.tmp 118) rfl rfl wa.heap.size (bys I0).toArray rfl rfl 23 zero32 hoz hia hzs hal ?_)
   have kb : Kept [] wa ((wa.alloc (.cells zero32 23)).setRow wa.heap.size (bys I0).toArray) := ((Kept.refl [] wa).alloc _).trans (kept_row _ wa.heap.size _) (fun i hi hl => by simp only [List.mem_singleton] at hi; omega)
   have hQ : ((wa.alloc (.cells zero32 23)).setRow wa.heap.size (bys I0).toArray).heap[wa.heap.size]? = some (.cells (bys I0).toArray 23 (0, 0)) := setRow_heap _ _ _ _ _ _ hoz
   obtain ⟨Q, hQQ⟩ := nm (wa.heap.size)
   have HQW : Hid (w.heap.size <= Q) := by show _ <= _; rw [<-hQQ]; exact Kwa.out.size
   rw [hQQ] at kb hQ ⊢
   have Kwb := hide (Kwa.out.tr kb)
   have HQ := hide hQ
   clear hoz hia hzs hal hQQ kb hQ Kwa HKr
   generalize (wa.alloc (.cells zero32 23)).setRow Q (bys I0).toArray = wb at HQ Kwb ⊢
   have hoz := heap_new wb (.cells zero32 23)
   have hia : (Tryz.prog.info? 23).map (·.size) = some zero32.size := Tryz.infoID
   have hal : zero32.all (·.oneCell') = true := by kernel_rfl
   go_upto_region 16 with (first
    | refine wpList_store_rowTo rfl 23 (.tmp 18) (.tmp 119) rfl rfl wb.heap.size zero32 rfl rfl 23 zero32 hoz hia rfl hal ?_)
   have kb : Kept [] wb ((wb.alloc (.cells zero32 23)).setRow wb.heap.size zero32) := ((Kept.refl [] wb).alloc _).trans (kept_row _ wb.heap.size _) (fun i hi hl => by simp only [List.mem_singleton] at hi; omega)
   have hT : ((wb.alloc (.cells zero32 23)).setRow wb.heap.size zero32).heap[wb.heap.size]? = some (.cells (bys z32).toArray 23 (0, 0)) := setRow_heap _ _ _ _ _ _ hoz
   obtain ⟨Tb, hTT⟩ : ∃ Q, wb.heap.size = Q := ⟨_, rfl⟩
   have HTW : Hid (w.heap.size <= Tb ∧ Q < Tb) := by
    show _ ∧ _
    rw [<-hTT]
    exact ⟨Kwb.out.size, (gs HQ.out).1⟩
   rw [hTT] at kb hT ⊢
   have Kwc := hide (Kwb.out.tr kb)
   have HQc := hide ((kb.block Q (gs HQ.out).1 (by simp)).trans HQ.out)
   have HTc := hide hT
   clear hoz hia hal hTT kb hT Kwb HQ
   generalize (wb.alloc (.cells zero32 23)).setRow Tb zero32 = wc at HQc HTc Kwc ⊢
   by_cases hon : honest = true ∧ 1 <= W
   ·obtain ⟨rfl, hW1⟩ := hon
    have hW2 : (1 : Int) <= (W : Int) := by omega
    as_aux_lemma =>
    go_upto_region 18 with (fail)
    have HIN : Hid (OwnB wc wc.heap.size (.slice none 0 0) [] ∧ Kept [] wc wc) := ⟨World.ownsRow_nil _ _ _ _, Kept.refl _ _⟩
    go_wp2
    go_loopw [19, 20] (fun x y wr => ∃ (j : Nat) (O : List UInt8) (oo : Option Addr) (on oc : Nat), j <= i ∧ on <= 150000000000000 ∧ x = .slice oo on oc ∧ y = .int .i64 j ∧ Hid (OwnB wr wc.heap.size (.slice oo on oc) O ∧ Kept [] wc wr)) (fun x y wr => i - (intOf y).toNat)
    case atStart => exact ⟨0, [], none, 0, 0, by omega, by omega, rfl, rfl, HIN⟩
    case round =>
     clear HIN
     obtain ⟨j, O, oo, on, oc, hj, hon, rfl, rfl, HP⟩ := hrel
     by_cases hgo : j < i ∧ on <= 131072
     ·obtain ⟨hj2, hob⟩ := hgo
      as_aux_lemma =>
      have hjt : (j : Int) < (i : Int) := by omega
      have hon1 : (on : Int) <= 131072 := by omega
      have hon2 : on <= 131072 := hob
      obtain ⟨x, hx⟩ : ∃ x, L[j]? = some x := ⟨_, List.getElem?_eq_getElem (by rw [HL.out]; exact hj2)⟩
      have HXok := hide (HOK.out x (List.mem_of_getElem? hx))
      obtain ⟨⟨ga, oa, rfl, hra⟩, hxo⟩ := (H2.out.kept (Kwc.out.tr HP.out.2)) j x hx
      have hin8 := hxo.inb.in8
      obtain ⟨f, hf⟩ := Int.eq_ofNat_of_zero_le HXok.out.1
      obtain ⟨c, hc⟩ := Int.eq_ofNat_of_zero_le HXok.out.2.1
      have hfb : f <= 2147483647 := by have := HXok.out.2.2.1; omega
      have hcb : c <= 2147483647 := by have := HXok.out.2.2.2.1; omega
      have hnb : x.n <= 3000000 := HXok.out.2.2.2.2
      obtain ⟨xo, hxo'⟩ : ∃ xo, x.ao = xo := ⟨_, rfl⟩
      obtain ⟨xn, hxn⟩ := nm (x.n)
      obtain ⟨xc, hxc⟩ := nm (x.cap)
      obtain ⟨xb, hxb⟩ := nm (x.bs)
      have hrx : wr.rangeAt ga (oa + j * 3) (stp3 (f : Nat) (c : Nat) (.slice xo xn xc)) := by have h := hra; unfold Ta.cells at h; rw [hf, hc, hxo', hxn, hxc] at h; exact h
      rw [hxo', hxn, hxc, hxb] at hin8
      rw [hxn] at hnb
      have hi3 : (Tryz.prog.info? 39).map (·.size) = some (stp3 ((f : Nat) : Int) ((c : Nat) : Int) (.slice xo xn xc)).length := Tryz.infoStpS
      have HB8 := hide hin8
      clear hra hxo hx hf hc hxo' hxn hxc hxb hin8 HXok
      have hoz := heap_new wr (.cells (stp3 0 0 (.slice none 0 0)).toArray 39)
      have hia : (Tryz.prog.info? 39).map (·.size) = some (stp3 ((f : Nat) : Int) ((c : Nat) : Int) (.slice xo xn xc)).toArray.size := Tryz.infoStpS
      have hal : (stp3 ((f : Nat) : Int) ((c : Nat) : Int) (.slice xo xn xc)).toArray.all (·.oneCell') = true := stp3_all _ _ _ rfl
      have hzs : (stp3 0 0 (.slice none 0 0)).toArray.size = (stp3 ((f : Nat) : Int) ((c : Nat) : Int) (.slice xo xn xc)).toArray.size := rfl
      go_upto_region 23 with (first
       | (refine wpList_load_mid rfl 39 (.tmp 140) rfl ga (oa + j * 3) rfl (stp3 ((f : Nat) : Int) ((c : Nat) : Int) (.slice xo xn xc)) _ hrx Tryz.underlying39 rfl hi3 ?_; try simp only [z4, z5, z6, z7, z8])
       | (refine wpList_store_rowTo rfl 39 (.tmp 21) (.tmp 141) rfl rfl wr.heap.size (stp3 ((f : Nat) : Int) ((c : Nat) : Int) (.slice xo xn xc)).toArray rfl rfl 39 (stp3 0 0 (.slice none 0 0)).toArray hoz hia hzs hal ?_; try simp only [z4, z5, z6, z7, z8]))
      have kb : Kept [] wr ((wr.alloc (.cells (stp3 0 0 (.slice none 0 0)).toArray 39)).setRow wr.heap.size (stp3 ((f : Nat) : Int) ((c : Nat) : Int) (.slice xo xn xc)).toArray) := ((Kept.refl [] wr).alloc _).trans (kept_row _ wr.heap.size _) (fun i hi hl => by simp only [List.mem_singleton] at hi; omega)
      have hY : ((wr.alloc (.cells (stp3 0 0 (.slice none 0 0)).toArray 39)).setRow wr.heap.size (stp3 ((f : Nat) : Int) ((c : Nat) : Int) (.slice xo xn xc)).toArray).heap[wr.heap.size]? = some (.cells (stp3 ((f : Nat) : Int) ((c : Nat) : Int) (.slice xo xn xc)).toArray 39 (0, 0)) := setRow_heap _ _ _ _ _ _ hoz
      obtain ⟨Yb, hYY⟩ : ∃ Q, wr.heap.size = Q := ⟨_, rfl⟩
      have HYB : Hid ((Value.slice oo on oc).ownBlock ≠ some Yb) := fun h => by
       have := (HP.out.1.far Yb h).2
       omega
      rw [hYY] at kb hY ⊢
      have HPx : Hid (OwnB ((wr.alloc (.cells (stp3 0 0 (.slice none 0 0)).toArray 39)).setRow Yb (stp3 ((f : Nat) : Int) ((c : Nat) : Int) (.slice xo xn xc)).toArray) wc.heap.size (.slice oo on oc) O ∧ Kept [] wc ((wr.alloc (.cells (stp3 0 0 (.slice none 0 0)).toArray 39)).setRow Yb (stp3 ((f : Nat) : Int) ((c : Nat) : Int) (.slice xo xn xc)).toArray)) := ⟨HP.out.1.kept kb (by simp), HP.out.2.tr kb⟩
      have HYH := hide hY
      have HKb := hide kb
      clear hoz hia hal hzs hYY kb hY hrx hi3 HP
      generalize (wr.alloc (.cells (stp3 0 0 (.slice none 0 0)).toArray 39)).setRow Yb (stp3 ((f : Nat) : Int) ((c : Nat) : Int) (.slice xo xn xc)).toArray = wx at HPx HYH HKb ⊢
      have y0 : wx.cell? ⟨Yb, 0, none⟩ = some (.int .i64 (f : Nat)) := by rw [cell_of_row _ _ _ _ _ _ HYH.out]; rfl
      have y1 : wx.cell? ⟨Yb, 1, none⟩ = some (.int .i64 (c : Nat)) := by rw [cell_of_row _ _ _ _ _ _ HYH.out]; rfl
      have HXB := hide (HB8.out.kept HKb.out)
      obtain ⟨nz, hnz⟩ := nm (n / Z)
      by_cases hc0 : c = 0
      ·subst hc0
       as_aux_lemma =>
       clear hnz
       go_upto_region 23 with (fail)
       refine th wx fun h0 => ?_
       generalize World.drew wx = v0 at h0  ⊢
       refine t1 0 (.pointer (some ⟨Yb, 1, none⟩)) h0 ?_
       simp only [zz]
       refine t2 1 (.int .i64 0) rfl h0 ?_ (fun w h => by have c := qc h y1; go_simp)
       simp only [zz]
       refine t1 2 (.bool false) h0 ?_
       simp only [zz]
       refine t1 3 (.bool false) h0 ?_
       simp only [zz]
       refine t3 4 h0 ?_
       simp only [zz]
       refine t3 5 h0 ?_
       simp only [zz]
       refine t1 6 (.bool false) h0 ?_
       simp only [zz]
       refine t1 7 (.bool false) h0 ?_
       simp only [zz]
       refine t3 8 h0 ?_
       simp only [zz]
       refine t3 9 h0 ?_
       simp only [zz]
       refine t3 10 h0 ?_
       simp only [zz]
       refine t3 11 h0 ?_
       simp only [zz]
       refine t3 12 h0 ?_
       simp only [zz]
       refine t3 13 h0 ?_
       simp only [zz]
       refine t3 14 h0 ?_
       simp only [zz]
       refine t1 15 (.bool false) h0 ?_
       simp only [zz]
       refine t1 16 (.bool false) h0 ?_
       simp only [zz]
       refine t3 17 h0 ?_
       simp only [zz]
       refine t3 18 h0 ?_
       simp only [zz]
       refine t3 19 h0 ?_
       simp only [zz]
       refine t3 20 h0 ?_
       simp only [zz]
       refine t3 21 h0 ?_
       simp only [zz]
       refine t3 22 h0 ?_
       simp only [zz]
       refine t3 23 h0 ?_
       simp only [zz]
       refine t3 24 h0 ?_
       simp only [zz]
       refine t3 25 h0 ?_
       simp only [zz]
       refine t3 26 h0 ?_
       simp only [zz]
       refine t1 27 (.bool false) h0 ?_
       simp only [zz]
       refine qd ?_
       have y1 := h0.cellOf y1 (by simp)
       have y2 : v0.cell? ⟨Yb, 2, none⟩ = some (.slice xo xn xc) := h0.cellOf (show wx.cell? ⟨Yb, 2, none⟩ = some (.slice xo xn xc) by rw [cell_of_row _ _ _ _ _ _ HYH.out]; rfl) (by simp)
       obtain ⟨po', pc', w4, hrun, hoj, hkj⟩ := appW (HPx.out.1.kept h0 (by simp)) (Nat.le_trans HPx.out.2.size h0.size) xo xn xc xb HXB.out.len (HXB.out.sl.kept h0 (by simp)) HXB.out.nil (by omega)
       have HN : Hid (OwnB w4 wc.heap.size (.slice po' (on + xn) pc') (O ++ xb) ∧ Kept [] wc w4) := ⟨hoj, own_far (HPx.out.1.kept h0 (by simp)) (HPx.out.2.tr h0) (Nat.le_refl _) hkj⟩
       clear hoj hkj HPx h0 y0
       go_wp2_with (refine wpList_app_run rfl (.tmp 188) (.tmp 190) 27 27 rfl (.slice oo on oc) (.slice xo xn xc) rfl rfl (.slice po' (on + xn) pc') w4 hrun ?_; try simp only [z4, z5, z6, z7, z8])
       go_roundw
       case rel => exact ⟨j + 1, O ++ xb, po', on + xn, pc', by omega, by omega, rfl, by go_num, HN⟩
       case measure => simp [intOf]; omega
      have hcp : 0 < c := by omega
      have hcp1 : (0 : Int) < (c : Int) := by omega
      have hcn : ((c : Int) == 0) = false := by simp; omega
      clear hc0
      by_cases hz0 : Z = 0
      ·subst hz0
       as_aux_lemma =>
       clear hnz
       go_upto_region 23 with (fail)
       refine th wx fun h0 => ?_
       generalize World.drew wx = v0 at h0  ⊢
       refine t1 0 (.pointer (some ⟨Yb, 1, none⟩)) h0 ?_
       simp only [zz]
       refine t2 1 (.int .i64 c) rfl h0 ?_ (fun w h => by have c := qc h y1; go_simp)
       simp only [zz]
       refine t1 2 (.bool true) h0 ?_
       simp only [zz]
       refine t1 3 (.bool true) h0 ?_
       simp only [zz]
       refine t1 4 (.int .i64 0) h0 ?_
       simp only [zz]
       refine t1 5 (.bool false) h0 ?_
       simp only [zz]
       refine t1 6 (.bool false) h0 ?_
       simp only [zz]
       refine t1 7 (.bool false) h0 ?_
       simp only [zz]
       refine t3 8 h0 ?_
       simp only [zz]
       refine t3 9 h0 ?_
       simp only [zz]
       refine t3 10 h0 ?_
       simp only [zz]
       refine t3 11 h0 ?_
       simp only [zz]
       refine t3 12 h0 ?_
       simp only [zz]
       refine t3 13 h0 ?_
       simp only [zz]
       refine t3 14 h0 ?_
       simp only [zz]
       refine t1 15 (.bool false) h0 ?_
       simp only [zz]
       refine t1 16 (.bool false) h0 ?_
       simp only [zz]
       refine t3 17 h0 ?_
       simp only [zz]
       refine t3 18 h0 ?_
       simp only [zz]
       refine t3 19 h0 ?_
       simp only [zz]
       refine t3 20 h0 ?_
       simp only [zz]
       refine t3 21 h0 ?_
       simp only [zz]
       refine t3 22 h0 ?_
       simp only [zz]
       refine t3 23 h0 ?_
       simp only [zz]
       refine t3 24 h0 ?_
       simp only [zz]
       refine t3 25 h0 ?_
       simp only [zz]
       refine t3 26 h0 ?_
       simp only [zz]
       refine t1 27 (.bool false) h0 ?_
       simp only [zz]
       refine qd ?_
       have HN : Hid (OwnB v0 wc.heap.size (.slice oo on oc) O ∧ Kept [] wc v0) := ⟨HPx.out.1.kept h0 (by simp), HPx.out.2.tr h0⟩
       have y1 := h0.cellOf y1 (by simp)
       clear HPx h0 y0
       go_wp2
       go_roundw
       case rel => exact ⟨j + 1, O, oo, on, oc, by omega, by omega, rfl, by go_num, HN⟩
       case measure => simp [intOf]; omega
      have hzp : 0 < Z := by omega
      have hzp1 : (0 : Int) < (Z : Int) := by omega
      have hnz2 : nz <= n := by rw [<-hnz]; exact Nat.div_le_self _ _
      have hquo : (n : Int).tdiv (Z : Int) = (nz : Int) := by rw [<-hnz]; rw [Int.tdiv_eq_ediv_of_nonneg (by omega)]; rfl
      have HNZ := hide hnz
      have hzn : ¬ Z = 0 := hz0
      have hwq : IntKind.i64.wrap (nz : Int) = (nz : Int) := wrap64 (by omega) (by omega)
      clear hnz hz0
      by_cases hfz : nz < f
      ·have hfz1 : ¬ (f : Int) <= (nz : Int) := by omega
       as_aux_lemma =>
       go_upto_region 23 with (fail)
       refine th wx fun h0 => ?_
       generalize World.drew wx = v0 at h0  ⊢
       refine t1 0 (.pointer (some ⟨Yb, 1, none⟩)) h0 ?_
       simp only [zz]
       refine t2 1 (.int .i64 c) rfl h0 ?_ (fun w h => by have c := qc h y1; go_simp)
       simp only [zz]
       refine t1 2 (.bool true) h0 ?_
       simp only [zz]
       refine t1 3 (.bool true) h0 ?_
       simp only [zz]
       refine t1 4 (.int .i64 Z) h0 ?_
       simp only [zz]
       refine t1 5 (.bool true) h0 ?_
       simp only [zz]
       refine t1 6 (.bool true) h0 ?_
       simp only [zz]
       refine t1 7 (.bool true) h0 ?_
       simp only [zz]
       refine t1 8 (.pointer (some ⟨Yb, 0, none⟩)) h0 ?_
       simp only [zz]
       refine t2 9 (.int .i64 f) rfl h0 ?_ (fun w h => by have c := qc h y0; go_simp)
       simp only [zz]
       refine t1 10 (.slice ao n cap) h0 ?_
       simp only [zz]
       refine t1 11 (.int .i64 n) h0 ?_
       simp only [zz]
       refine t1 12 (.int .i64 Z) h0 ?_
       simp only [zz]
       refine t2 13 (.int .i64 nz) rfl h0 ?_ (fun w hSw => by have c0 := hquo; have c1 := hzn; have c2 := hwq; go_simp)
       simp only [zz]
       refine t1 14 (.bool false) h0 ?_
       simp only [zz]
       refine t1 15 (.bool false) h0 ?_
       simp only [zz]
       refine t1 16 (.bool false) h0 ?_
       simp only [zz]
       refine t3 17 h0 ?_
       simp only [zz]
       refine t3 18 h0 ?_
       simp only [zz]
       refine t3 19 h0 ?_
       simp only [zz]
       refine t3 20 h0 ?_
       simp only [zz]
       refine t3 21 h0 ?_
       simp only [zz]
       refine t3 22 h0 ?_
       simp only [zz]
       refine t3 23 h0 ?_
       simp only [zz]
       refine t3 24 h0 ?_
       simp only [zz]
       refine t3 25 h0 ?_
       simp only [zz]
       refine t3 26 h0 ?_
       simp only [zz]
       refine t1 27 (.bool false) h0 ?_
       simp only [zz]
       refine qd ?_
       have HN : Hid (OwnB v0 wc.heap.size (.slice oo on oc) O ∧ Kept [] wc v0) := ⟨HPx.out.1.kept h0 (by simp), HPx.out.2.tr h0⟩
       have y1 := h0.cellOf y1 (by simp)
       clear HPx h0 y0 hquo
       go_wp2
       go_roundw
       case rel => exact ⟨j + 1, O, oo, on, oc, by omega, by omega, rfl, by go_num, HN⟩
       case measure => simp [intOf]; omega
      have hfz1 : (f : Int) <= (nz : Int) := by omega
      have hsub : IntKind.i64.wrap ((nz : Int) - (f : Int)) = (nz : Int) - (f : Int) := wrap64 (by omega) (by omega)
      by_cases hcz : nz < f + c
      ·have hcz1 : ¬ (c : Int) <= (nz : Int) - (f : Int) := by omega
       as_aux_lemma =>
       go_upto_region 23 with (fail)
       refine th wx fun h0 => ?_
       generalize World.drew wx = v0 at h0  ⊢
       refine t1 0 (.pointer (some ⟨Yb, 1, none⟩)) h0 ?_
       simp only [zz]
       refine t2 1 (.int .i64 c) rfl h0 ?_ (fun w h => by have c := qc h y1; go_simp)
       simp only [zz]
       refine t1 2 (.bool true) h0 ?_
       simp only [zz]
       refine t1 3 (.bool true) h0 ?_
       simp only [zz]
       refine t1 4 (.int .i64 Z) h0 ?_
       simp only [zz]
       refine t1 5 (.bool true) h0 ?_
       simp only [zz]
       refine t1 6 (.bool true) h0 ?_
       simp only [zz]
       refine t1 7 (.bool true) h0 ?_
       simp only [zz]
       refine t1 8 (.pointer (some ⟨Yb, 0, none⟩)) h0 ?_
       simp only [zz]
       refine t2 9 (.int .i64 f) rfl h0 ?_ (fun w h => by have c := qc h y0; go_simp)
       simp only [zz]
       refine t1 10 (.slice ao n cap) h0 ?_
       simp only [zz]
       refine t1 11 (.int .i64 n) h0 ?_
       simp only [zz]
       refine t1 12 (.int .i64 Z) h0 ?_
       simp only [zz]
       refine t2 13 (.int .i64 nz) rfl h0 ?_ (fun w hSw => by have c0 := hquo; have c1 := hzn; have c2 := hwq; go_simp)
       simp only [zz]
       refine t1 14 (.bool true) h0 ?_
       simp only [zz]
       refine t1 15 (.bool true) h0 ?_
       simp only [zz]
       refine t1 16 (.bool true) h0 ?_
       simp only [zz]
       refine t1 17 (.pointer (some ⟨Yb, 1, none⟩)) h0 ?_
       simp only [zz]
       refine t2 18 (.int .i64 c) rfl h0 ?_ (fun w h => by have c := qc h y1; go_simp)
       simp only [zz]
       refine t1 19 (.slice ao n cap) h0 ?_
       simp only [zz]
       refine t1 20 (.int .i64 n) h0 ?_
       simp only [zz]
       refine t1 21 (.int .i64 Z) h0 ?_
       simp only [zz]
       refine t2 22 (.int .i64 nz) rfl h0 ?_ (fun w hSw => by have c0 := hquo; have c1 := hzn; have c2 := hwq; go_simp)
       simp only [zz]
       refine t1 23 (.pointer (some ⟨Yb, 0, none⟩)) h0 ?_
       simp only [zz]
       refine t2 24 (.int .i64 f) rfl h0 ?_ (fun w h => by have c := qc h y0; go_simp)
       simp only [zz]
       refine t2 25 (.int .i64 ((nz : Int) - (f : Int))) rfl h0 ?_ (fun w hSw => by have c0 := hsub; go_simp)
       simp only [zz]
       refine t1 26 (.bool false) h0 ?_
       simp only [zz]
       refine t1 27 (.bool false) h0 ?_
       simp only [zz]
       refine qd ?_
       have HN : Hid (OwnB v0 wc.heap.size (.slice oo on oc) O ∧ Kept [] wc v0) := ⟨HPx.out.1.kept h0 (by simp), HPx.out.2.tr h0⟩
       have y1 := h0.cellOf y1 (by simp)
       clear HPx h0 y0 hquo hsub
       go_wp2
       go_roundw
       case rel => exact ⟨j + 1, O, oo, on, oc, by omega, by omega, rfl, by go_num, HN⟩
       case measure => simp [intOf]; omega
      have hcz1 : (c : Int) <= (nz : Int) - (f : Int) := by omega
      as_aux_lemma =>
      go_upto_region 23 with (fail)
      refine th wx fun h0 => ?_
      generalize World.drew wx = v0 at h0  ⊢
      refine t1 0 (.pointer (some ⟨Yb, 1, none⟩)) h0 ?_
      simp only [zz]
      refine t2 1 (.int .i64 c) rfl h0 ?_ (fun w h => by have c := qc h y1; go_simp)
      simp only [zz]
      refine t1 2 (.bool true) h0 ?_
      simp only [zz]
      refine t1 3 (.bool true) h0 ?_
      simp only [zz]
      refine t1 4 (.int .i64 Z) h0 ?_
      simp only [zz]
      refine t1 5 (.bool true) h0 ?_
      simp only [zz]
      refine t1 6 (.bool true) h0 ?_
      simp only [zz]
      refine t1 7 (.bool true) h0 ?_
      simp only [zz]
      refine t1 8 (.pointer (some ⟨Yb, 0, none⟩)) h0 ?_
      simp only [zz]
      refine t2 9 (.int .i64 f) rfl h0 ?_ (fun w h => by have c := qc h y0; go_simp)
      simp only [zz]
      refine t1 10 (.slice ao n cap) h0 ?_
      simp only [zz]
      refine t1 11 (.int .i64 n) h0 ?_
      simp only [zz]
      refine t1 12 (.int .i64 Z) h0 ?_
      simp only [zz]
      refine t2 13 (.int .i64 nz) rfl h0 ?_ (fun w hSw => by have c0 := hquo; have c1 := hzn; have c2 := hwq; go_simp)
      simp only [zz]
      refine t1 14 (.bool true) h0 ?_
      simp only [zz]
      refine t1 15 (.bool true) h0 ?_
      simp only [zz]
      refine t1 16 (.bool true) h0 ?_
      simp only [zz]
      refine t1 17 (.pointer (some ⟨Yb, 1, none⟩)) h0 ?_
      simp only [zz]
      refine t2 18 (.int .i64 c) rfl h0 ?_ (fun w h => by have c := qc h y1; go_simp)
      simp only [zz]
      refine t1 19 (.slice ao n cap) h0 ?_
      simp only [zz]
      refine t1 20 (.int .i64 n) h0 ?_
      simp only [zz]
      refine t1 21 (.int .i64 Z) h0 ?_
      simp only [zz]
      refine t2 22 (.int .i64 nz) rfl h0 ?_ (fun w hSw => by have c0 := hquo; have c1 := hzn; have c2 := hwq; go_simp)
      simp only [zz]
      refine t1 23 (.pointer (some ⟨Yb, 0, none⟩)) h0 ?_
      simp only [zz]
      refine t2 24 (.int .i64 f) rfl h0 ?_ (fun w h => by have c := qc h y0; go_simp)
      simp only [zz]
      refine t2 25 (.int .i64 ((nz : Int) - (f : Int))) rfl h0 ?_ (fun w hSw => by have c0 := hsub; go_simp)
      simp only [zz]
      refine t1 26 (.bool true) h0 ?_
      simp only [zz]
      refine t1 27 (.bool true) h0 ?_
      simp only [zz]
      refine qd ?_
      have y0 := h0.cellOf y0 (by simp)
      have y1 := h0.cellOf y1 (by simp)
      have hle : (f + c) * Z <= n := Nat.le_trans (Nat.mul_le_mul_right Z (show f + c <= nz by omega)) (by rw [<-HNZ.out]; exact Nat.div_mul_le_self n Z)
      obtain ⟨l, hl⟩ := nm (f * Z)
      obtain ⟨hh, hhh⟩ := nm ((f + c) * Z)
      obtain ⟨md, hmd⟩ := nm (c * Z)
      have hlm : l + md = hh := by rw [<-hl, <-hmd, <-hhh, Nat.add_mul]
      rw [hhh] at hle
      have hm1 : IntKind.i64.wrap ((f : Int) * (Z : Int)) = (l : Int) := by rw [<-hl, wrap64 (by rw [<-Int.natCast_mul]; omega) (by rw [<-Int.natCast_mul, hl]; omega), Int.natCast_mul]
      have hm2 : IntKind.i64.wrap ((f : Int) + (c : Int)) = ((f + c : Nat) : Int) := by rw [wrap64 (by omega) (by omega)]; omega
      have hm3 : IntKind.i64.wrap (((f + c : Nat) : Int) * (Z : Int)) = (hh : Int) := by rw [<-hhh, wrap64 (by rw [<-Int.natCast_mul]; omega) (by rw [<-Int.natCast_mul, hhh]; omega), Int.natCast_mul]
      obtain ⟨fc, hfc⟩ := nm (f + c)
      rw [hfc] at hm2 hm3
      have hin8 := (H1.out.in8).kept ((Kwc.out.tr HPx.out.2).tr h0)
      obtain ⟨co, cc, hcut, hcin⟩ := cut_both hin8 l hh md hlm hle
      obtain ⟨po', pc', w4, hrun, hoj, hkj⟩ := appW (HPx.out.1.kept h0 (by simp)) (Nat.le_trans HPx.out.2.size h0.size) co md cc _ hcin.len hcin.sl hcin.nil (by omega)
      have HN : Hid (OwnB w4 wc.heap.size (.slice po' (on + md) pc') _ ∧ Kept [] wc w4) := ⟨hoj, own_far (HPx.out.1.kept h0 (by simp)) (HPx.out.2.tr h0) (Nat.le_refl _) hkj⟩
      have hY4 : w4.heap[Yb]? = some (.cells (stp3 ((f : Nat) : Int) ((c : Nat) : Int) (.slice xo xn xc)).toArray 39 (0, 0)) := by
       have hlt := (gs HYH.out).1
       rw [hkj.block Yb (Nat.lt_of_lt_of_le hlt h0.size) (by have := HYB.out; simpa using this), h0.block Yb hlt (by simp)]
       exact HYH.out
      have y4 : w4.cell? ⟨Yb, 1, none⟩ = some (.int .i64 (c : Nat)) := by rw [cell_of_row _ _ _ _ _ _ hY4]; rfl
      clear hoj hkj HPx h0 hin8 hcin hl hhh hmd hfc hY4 hquo hsub
      go_wp2_with (first
       | (refine wpList_app_run rfl (.tmp 170) (.tmp 183) 27 27 rfl (.slice oo on oc) (.slice co md cc) rfl rfl (.slice po' (on + md) pc') w4 hrun ?_; try simp only [z4, z5, z6, z7, z8]))
      go_roundw
      case rel => exact ⟨j + 1, _, po', on + md, pc', by omega, by omega, rfl, by go_num, HN⟩
      case measure => simp [intOf]; omega
     ·have hof := fun X (hX : Kept [] wr X) => rof_okW (W : Int) oo on oc O X (own_len HP.out.1) (by omega) (HP.out.1.in8.sl.kept hX (by simp)) HP.out.1.in8.nil
      obtain ⟨I1, hI1⟩ := nm (Sha.ident (W : Int) O)
      have HTl : Hid (I1.length = 32) := by show _ = _; rw [<-hI1]; exact Sha.ident_len _ _
      have HG : Hid (nought W I1 = true) := by show _ = _; rw [<-hI1]; exact ident_nought W O
      rw [hI1] at hof
      have HOF := hide hof
      have hT1 := hide ((HP.out.2.block Tb (gs HTc.out).1 (by simp)).trans HTc.out)
      have HQr := hide ((HP.out.2.block Q (gs HQc.out).1 (by simp)).trans HQc.out)
      have Kwr := hide (Kwc.out.tr HP.out.2)
      have hgo1 : ¬ (j : Int) < (i : Int) ∨ ((j : Int) < (i : Int) ∧ ¬ (on : Int) <= 131072) := by
       by_cases h : j < i
       ·exact .inr ⟨by omega, fun h2 => hgo ⟨h, by omega⟩⟩
       ·exact .inl (by omega)
      have hof2 := HOF.out wr (Kept.refl _ _)
      clear hI1 hof hgo HP
      rcases hgo1 with hgo1 | ⟨hgo1, hgo2⟩
      ·as_aux_lemma =>
       go_upto_region 29 with (first
        | (go_at_call 10; refine hof2.mono ?_; rintro r ws ⟨rfl, hks⟩; have Ks := hide hks; have hTs := (hks.block Tb (gs hT1.out).1 (by simp)).trans hT1.out; have hia : (Tryz.prog.info? 23).map (·.size) = some (bys I1).toArray.size := (by have h := idlen HTl.out; simpa using h); have hzs : (bys z32).toArray.size = (bys I1).toArray.size := (by have h := HTl.out; simp [bys_length, h, z32_len]); have hal := all_oneCell_toArray (bys_oneCell I1); clear hof2 hks)
        | refine wpList_store_rowTo rfl 23 (.tmp 18) (.tmp 196) rfl rfl Tb (bys I1).toArray rfl rfl 23 (bys z32).toArray hTs hia hzs hal ?_)
       have kb := kept_row ws Tb (bys I1).toArray
       have HTt : Hid ((ws.setRow Tb (bys I1).toArray).heap[Tb]? = some (.cells (bys I1).toArray 23 (0, 0))) := setRow_heap _ _ _ _ _ _ hTs
       have HQt : Hid ((ws.setRow Tb (bys I1).toArray).heap[Q]? = some (.cells (bys I0).toArray 23 (0, 0))) := by
        have hq := (gs HQr.out).1
        exact (kb.block Q (Nat.lt_of_lt_of_le hq Ks.out.size) (by have := HTW.out; simp; omega)).trans ((Ks.out.block Q hq (by simp)).trans HQr.out)
       have Kwt : Hid (Kept [] w (ws.setRow Tb (bys I1).toArray)) := (Kwr.out.tr Ks.out).trans kb (fun i hi hl => by simp only [List.mem_singleton] at hi; have := HTW.out; omega)
       clear kb hTs hia hzs hal HQr hT1 Ks Kwr HOF
       generalize ws.setRow Tb (bys I1).toArray = wt at HTt HQt Kwt ⊢
       have hrq : wt.rangeAt Q 0 (bys I0) := fun j u hu => by rw [Nat.zero_add, cell_of_row _ _ _ _ _ _ HQt.out]; simpa using hu
       have hrt : wt.rangeAt Tb 0 (bys I1) := fun j u hu => by rw [Nat.zero_add, cell_of_row _ _ _ _ _ _ HTt.out]; simpa using hu
       have hile1 := idlen HTl.out
       have hwr := rwrittenB_ok W Z n on I0 I1 so i sc (L.map Ta.tr) wt (by omega) hZ (by omega) (by omega) HI0.out HTl.out (by rw [List.length_map, HL.out]) (by omega) (((H2.out.kept Kwt.out).trs HOK.out)) (by have h := encT_mch (w := w) (L := L) (fun x hx => ⟨HOK.out x hx, by obtain ⟨k, hk⟩ := List.getElem?_of_mem hx; exact (H2.out k x hk).2⟩); rw [HMU.out] at h; omega)
       obtain ⟨WB, hWB⟩ := nm (writtenB W Z n I0 on I1 (L.map Ta.tr))
       have HOD : Hid (applyE xs WB = 0 -> (applyB xs WB).length = on ∧ Sha.ident ((W : Nat) : Int) (applyB xs WB) = I1) := by
        show _ -> _
        rw [<-hWB]
        exact own_done HI0.out HTl.out (by omega) HG.out
       rw [hWB] at hwr
       clear hWB
       go_upto_region 30 with (first
        | (refine wpList_load_mid rfl 23 (.tmp 17) rfl Q 0 rfl (bys I0) _ hrq Tryz.underlying23 rfl hile0 ?_; try simp only [z4, z5, z6, z7, z8])
        | (refine wpList_load_mid rfl 23 (.tmp 18) rfl Tb 0 rfl (bys I1) _ hrt Tryz.underlying23 rfl hile1 ?_; try simp only [z4, z5, z6, z7, z8])
        | (go_at_call 19; refine hwr.mono ?_; rintro r wd ⟨⟨po, pn, pc, rfl, hop⟩, hkd⟩; have OP := hide hop; have Kwd := hide (Kwt.out.tr hkd); have Kd := hide hkd; clear hwr hop hkd))
       clear hrq hrt
       have hpl := own_len OP.out
       have hrm := roomy_ok ao n cap xs wd H1.out.len (H1.out.sl.kept Kwd.out (by simp)) H1.out.nil hnm
       go_upto_region 31 with (go_at_call 20; refine hrm.mono ?_; rintro r we ⟨⟨g1, gc1, rfl, ho4, hgc1⟩, hk4⟩; have G4 := hide (ai ho4 (ai hgc1 hk4)); clear hrm ho4 hgc1 hk4)
       have HC1 := hide (cy_of G4.out.1 H1.out.len G4.out.2.1)
       have HCP : Hid (gc1 <= 9223372036854775807) := ownB_capw G4.out.1
       have OPe := hide (OP.out.kept G4.out.2.2 (by simp))
       have Kwe := hide (Kwd.out.tr G4.out.2.2)
       have Ke := hide (Kd.out.tr G4.out.2.2)
       obtain ⟨ce, hce⟩ : ∃ c, applyE xs WB = c := ⟨_, rfl⟩
       obtain ⟨G, hG⟩ := nm (applyB xs WB)
       obtain ⟨gn, hgn⟩ := nm (G.length)
       have HGN := hide hgn
       have HGL : Hid (gn <= 131072) := by show _ <= _; rw [<-hgn, <-hG]; exact applyB_lenw xs WB
       have hin8 := OPe.out.in8
       have HW8 := hide hin8
       have hP := apply_ok (some ⟨g1, 0, none⟩) n gc1 xs po pn pc WB we (cy_in8w HC1.out HCP.out) HW8.out
       have HR := hide (fun X (hX : Kept [] we X) => rapply_ok ao n cap xs po pn pc WB X (H1.out.in8.kept (Kwe.out.tr hX)) (HW8.out.kept hX))
       rw [hce, hG] at hP HR HOD
       clear hin8 hce hG hgn hpl OP OPe G4
       go_upto_region 32 with (go_at_call 16; refine hP.mono ?_; rintro r wf ⟨⟨oo, oc, rfl, hoa⟩, hkf⟩; have OA := hide (show OwnB wf we.heap.size (.slice oo G.length oc) G from hoa); rw [HGN.out]; have Kf := hide hkf; have hP2 := HR.out wf hkf; clear hP hoa hkf HR)
       go_upto_region 33 with (go_at_call 21; refine hP2.mono ?_; rintro r wg ⟨⟨qo, qc, rfl, hob⟩, hkg⟩; have OB := hide (show OwnB wg wf.heap.size (.slice qo G.length qc) G from hob); rw [HGN.out]; have Kg := hide hkg; clear hP2 hob hkg)
       have Kwg := hide ((Kwe.out.tr Kf.out).tr Kg.out)
       have Ktg := hide ((Ke.out.tr Kf.out).tr Kg.out)
       have HSA := hide (OA.out.in8.sl.kept Kg.out (by simp))
       have HSB := hide OB.out.in8.sl
       have HNA := hide OA.out.in8.nil
       have hsm := same_any oo qo gn oc gn qc G G wg HGN.out HGN.out (by have := HGL.out; omega) HSA.out HSB.out
       rw [decide_eq_true (rfl : G = G)] at hsm
       have HST := hide (fun X (hX : Kept [] wg X) => stands_ok g1 n gc1 xs ao cap X ((HC1.out.kept ((Kf.out.tr Kg.out).tr hX) (by simp))) (H1.out.sl.kept (Kwg.out.tr hX) (by simp)) hnm)
       go_upto_region 35 with (first
        | (go_at_call 22; refine hsm.mono ?_; rintro r wx ⟨rfl, kk, rfl⟩; have Kx := hide ((Kept.refl [] wg).drewN kk); have hst := HST.out _ Kx.out; clear hsm; generalize World.drewN wg kk = wx at Kx hst ⊢)
        | (go_at_call 23; refine hst.mono ?_; rintro r wy ⟨rfl, hky⟩; have Ky := hide (Kx.out.tr hky); clear hst hky))
       have Kwy := hide (Kwg.out.tr Ky.out)
       clear HST
       by_cases hc0 : ce = 0
       ·subst hc0
        have hok := HOD.out rfl
        have hgm : gn = on := by rw [<-HGN.out]; exact hok.1
        have hrt : wy.rangeAt Tb 0 (bys I1) := fun j u hu => (Ktg.out.tr Ky.out).cellOf (by rw [Nat.zero_add, cell_of_row _ _ _ _ _ _ HTt.out]; simpa using hu) (by simp)
        have hof2 := fun X (hX : Kept [] wy X) => rof_ok ((W : Nat) : Int) oo gn oc G X HGN.out (by have := HGL.out; omega) (HSA.out.kept (Ky.out.tr hX) (by simp)) HNA.out
        rw [hok.2] at hof2
        have HOG := hide hof2
        have heq : ∀ W, (Op.equalIn 10000 23 (.agg (bys I1).toArray) (.agg (bys I1).toArray)).run Tryz.prog W = .ok true W := fun W => by rw [Tryz.eqlID I1 I1 HTl.out HTl.out W, decide_eq_true (rfl : I1 = I1)]
        subst hgm
        clear hof2 hok HOD HGN HGL
        go_upto_region 35 with (fail)
        refine th wy fun h0 => ?_
        generalize World.drew wy = v0 at h0  ⊢
        refine t1 0 (.int .i64 0) h0 ?_
        simp only [zz]
        refine t1 1 (.bool false) h0 ?_
        simp only [zz]
        refine t1 2 (.bool false) h0 ?_
        simp only [zz]
        refine t1 3 (.slice oo gn oc) h0 ?_
        simp only [zz]
        refine t1 4 (.int .i64 gn) h0 ?_
        simp only [zz]
        refine t1 5 (.int .i64 gn) h0 ?_
        simp only [zz]
        refine t1 6 (.bool true) h0 ?_
        simp only [zz]
        refine t1 7 (.bool true) h0 ?_
        simp only [zz]
        refine t1 8 (.int .i64 W) h0 ?_
        simp only [zz]
        refine t1 9 (.slice oo gn oc) h0 ?_
        simp only [zz]
        refine t4 11 (.agg (bys I1).toArray) rfl (yieldsIf_load_mid (by rfl) _ _ rfl Tb 0 rfl (bys I1) _ (fun W h => fun j u hu => Kept.cellOf h (hrt j u hu) (by simp)) Tryz.underlying23 rfl hile1) h0 ?_
        simp only [zz]
        refine rd 10 fun K hK => ?_
        go_simp
        refine (HOG.out v0 h0).mono ?_
        rintro e v1 ⟨rfl, hq⟩
        refine hK.out _ _ (h0.tr hq) (fun h1 => ?_)
        clear hK K
        try simp only [zz]
        clear hq
        refine t2 12 (.bool true) rfl h1 ?_ (fun w hSw => by have c0 := heq w; go_simp)
        simp only [zz]
        refine t1 13 (.bool true) h1 ?_
        simp only [zz]
        refine t1 14 (.bool true) h1 ?_
        simp only [zz]
        refine t1 15 (.bool true) h1 ?_
        simp only [zz]
        refine qd ?_
        have HKF := hide (Kwy.out.tr h1)
        clear h1 hrt heq HOG
        go_wp2
        go_ret
        exact ⟨rfl, HKF.out.below0⟩
       ·have hcn : (ce != 0) = true := by simpa using hc0
        clear hc0 HOD
        go_upto_region 35 with (fail)
        refine th wy fun h0 => ?_
        generalize World.drew wy = v0 at h0  ⊢
        refine t1 0 (.int .i64 ce) h0 ?_
        simp only [zz]
        refine t1 1 (.bool true) h0 ?_
        simp only [zz]
        refine t1 2 (.bool true) h0 ?_
        simp only [zz]
        refine t3 3 h0 ?_
        simp only [zz]
        refine t3 4 h0 ?_
        simp only [zz]
        refine t3 5 h0 ?_
        simp only [zz]
        refine t3 6 h0 ?_
        simp only [zz]
        refine t3 7 h0 ?_
        simp only [zz]
        refine t3 8 h0 ?_
        simp only [zz]
        refine t3 9 h0 ?_
        simp only [zz]
        refine t3 10 h0 ?_
        simp only [zz]
        refine t3 11 h0 ?_
        simp only [zz]
        refine t3 12 h0 ?_
        simp only [zz]
        refine t3 13 h0 ?_
        simp only [zz]
        refine t1 14 (.bool true) h0 ?_
        simp only [zz]
        refine t1 15 (.bool true) h0 ?_
        simp only [zz]
        refine qd ?_
        have HKF := hide (Kwy.out.tr h0)
        clear h0
        go_wp2
        go_ret
        exact ⟨rfl, HKF.out.below0⟩
      ·as_aux_lemma =>
       go_upto_region 29 with (first
        | (go_at_call 10; refine hof2.mono ?_; rintro r ws ⟨rfl, hks⟩; have Ks := hide hks; have hTs := (hks.block Tb (gs hT1.out).1 (by simp)).trans hT1.out; have hia : (Tryz.prog.info? 23).map (·.size) = some (bys I1).toArray.size := (by have h := idlen HTl.out; simpa using h); have hzs : (bys z32).toArray.size = (bys I1).toArray.size := (by have h := HTl.out; simp [bys_length, h, z32_len]); have hal := all_oneCell_toArray (bys_oneCell I1); clear hof2 hks)
        | refine wpList_store_rowTo rfl 23 (.tmp 18) (.tmp 196) rfl rfl Tb (bys I1).toArray rfl rfl 23 (bys z32).toArray hTs hia hzs hal ?_)
       have kb := kept_row ws Tb (bys I1).toArray
       have HTt : Hid ((ws.setRow Tb (bys I1).toArray).heap[Tb]? = some (.cells (bys I1).toArray 23 (0, 0))) := setRow_heap _ _ _ _ _ _ hTs
       have HQt : Hid ((ws.setRow Tb (bys I1).toArray).heap[Q]? = some (.cells (bys I0).toArray 23 (0, 0))) := by
        have hq := (gs HQr.out).1
        exact (kb.block Q (Nat.lt_of_lt_of_le hq Ks.out.size) (by have := HTW.out; simp; omega)).trans ((Ks.out.block Q hq (by simp)).trans HQr.out)
       have Kwt : Hid (Kept [] w (ws.setRow Tb (bys I1).toArray)) := (Kwr.out.tr Ks.out).trans kb (fun i hi hl => by simp only [List.mem_singleton] at hi; have := HTW.out; omega)
       clear kb hTs hia hzs hal HQr hT1 Ks Kwr HOF
       generalize ws.setRow Tb (bys I1).toArray = wt at HTt HQt Kwt ⊢
       have hrq : wt.rangeAt Q 0 (bys I0) := fun j u hu => by rw [Nat.zero_add, cell_of_row _ _ _ _ _ _ HQt.out]; simpa using hu
       have hrt : wt.rangeAt Tb 0 (bys I1) := fun j u hu => by rw [Nat.zero_add, cell_of_row _ _ _ _ _ _ HTt.out]; simpa using hu
       have hile1 := idlen HTl.out
       have hwr := rwrittenB_ok W Z n on I0 I1 so i sc (L.map Ta.tr) wt (by omega) hZ (by omega) (by omega) HI0.out HTl.out (by rw [List.length_map, HL.out]) (by omega) (((H2.out.kept Kwt.out).trs HOK.out)) (by have h := encT_mch (w := w) (L := L) (fun x hx => ⟨HOK.out x hx, by obtain ⟨k, hk⟩ := List.getElem?_of_mem hx; exact (H2.out k x hk).2⟩); rw [HMU.out] at h; omega)
       obtain ⟨WB, hWB⟩ := nm (writtenB W Z n I0 on I1 (L.map Ta.tr))
       have HOD : Hid (applyE xs WB = 0 -> (applyB xs WB).length = on ∧ Sha.ident ((W : Nat) : Int) (applyB xs WB) = I1) := by
        show _ -> _
        rw [<-hWB]
        exact own_done HI0.out HTl.out (by omega) HG.out
       rw [hWB] at hwr
       clear hWB
       go_upto_region 30 with (first
        | (refine wpList_load_mid rfl 23 (.tmp 17) rfl Q 0 rfl (bys I0) _ hrq Tryz.underlying23 rfl hile0 ?_; try simp only [z4, z5, z6, z7, z8])
        | (refine wpList_load_mid rfl 23 (.tmp 18) rfl Tb 0 rfl (bys I1) _ hrt Tryz.underlying23 rfl hile1 ?_; try simp only [z4, z5, z6, z7, z8])
        | (go_at_call 19; refine hwr.mono ?_; rintro r wd ⟨⟨po, pn, pc, rfl, hop⟩, hkd⟩; have OP := hide hop; have Kwd := hide (Kwt.out.tr hkd); have Kd := hide hkd; clear hwr hop hkd))
       clear hrq hrt
       have hpl := own_len OP.out
       have hrm := roomy_ok ao n cap xs wd H1.out.len (H1.out.sl.kept Kwd.out (by simp)) H1.out.nil hnm
       go_upto_region 31 with (go_at_call 20; refine hrm.mono ?_; rintro r we ⟨⟨g1, gc1, rfl, ho4, hgc1⟩, hk4⟩; have G4 := hide (ai ho4 (ai hgc1 hk4)); clear hrm ho4 hgc1 hk4)
       have HC1 := hide (cy_of G4.out.1 H1.out.len G4.out.2.1)
       have HCP : Hid (gc1 <= 9223372036854775807) := ownB_capw G4.out.1
       have OPe := hide (OP.out.kept G4.out.2.2 (by simp))
       have Kwe := hide (Kwd.out.tr G4.out.2.2)
       have Ke := hide (Kd.out.tr G4.out.2.2)
       obtain ⟨ce, hce⟩ : ∃ c, applyE xs WB = c := ⟨_, rfl⟩
       obtain ⟨G, hG⟩ := nm (applyB xs WB)
       obtain ⟨gn, hgn⟩ := nm (G.length)
       have HGN := hide hgn
       have HGL : Hid (gn <= 131072) := by show _ <= _; rw [<-hgn, <-hG]; exact applyB_lenw xs WB
       have hin8 := OPe.out.in8
       have HW8 := hide hin8
       have hP := apply_ok (some ⟨g1, 0, none⟩) n gc1 xs po pn pc WB we (cy_in8w HC1.out HCP.out) HW8.out
       have HR := hide (fun X (hX : Kept [] we X) => rapply_ok ao n cap xs po pn pc WB X (H1.out.in8.kept (Kwe.out.tr hX)) (HW8.out.kept hX))
       rw [hce, hG] at hP HR HOD
       clear hin8 hce hG hgn hpl OP OPe G4
       go_upto_region 32 with (go_at_call 16; refine hP.mono ?_; rintro r wf ⟨⟨oo, oc, rfl, hoa⟩, hkf⟩; have OA := hide (show OwnB wf we.heap.size (.slice oo G.length oc) G from hoa); rw [HGN.out]; have Kf := hide hkf; have hP2 := HR.out wf hkf; clear hP hoa hkf HR)
       go_upto_region 33 with (go_at_call 21; refine hP2.mono ?_; rintro r wg ⟨⟨qo, qc, rfl, hob⟩, hkg⟩; have OB := hide (show OwnB wg wf.heap.size (.slice qo G.length qc) G from hob); rw [HGN.out]; have Kg := hide hkg; clear hP2 hob hkg)
       have Kwg := hide ((Kwe.out.tr Kf.out).tr Kg.out)
       have Ktg := hide ((Ke.out.tr Kf.out).tr Kg.out)
       have HSA := hide (OA.out.in8.sl.kept Kg.out (by simp))
       have HSB := hide OB.out.in8.sl
       have HNA := hide OA.out.in8.nil
       have hsm := same_any oo qo gn oc gn qc G G wg HGN.out HGN.out (by have := HGL.out; omega) HSA.out HSB.out
       rw [decide_eq_true (rfl : G = G)] at hsm
       have HST := hide (fun X (hX : Kept [] wg X) => stands_ok g1 n gc1 xs ao cap X ((HC1.out.kept ((Kf.out.tr Kg.out).tr hX) (by simp))) (H1.out.sl.kept (Kwg.out.tr hX) (by simp)) hnm)
       go_upto_region 35 with (first
        | (go_at_call 22; refine hsm.mono ?_; rintro r wx ⟨rfl, kk, rfl⟩; have Kx := hide ((Kept.refl [] wg).drewN kk); have hst := HST.out _ Kx.out; clear hsm; generalize World.drewN wg kk = wx at Kx hst ⊢)
        | (go_at_call 23; refine hst.mono ?_; rintro r wy ⟨rfl, hky⟩; have Ky := hide (Kx.out.tr hky); clear hst hky))
       have Kwy := hide (Kwg.out.tr Ky.out)
       clear HST
       by_cases hc0 : ce = 0
       ·subst hc0
        have hok := HOD.out rfl
        have hgm : gn = on := by rw [<-HGN.out]; exact hok.1
        have hrt : wy.rangeAt Tb 0 (bys I1) := fun j u hu => (Ktg.out.tr Ky.out).cellOf (by rw [Nat.zero_add, cell_of_row _ _ _ _ _ _ HTt.out]; simpa using hu) (by simp)
        have hof2 := fun X (hX : Kept [] wy X) => rof_ok ((W : Nat) : Int) oo gn oc G X HGN.out (by have := HGL.out; omega) (HSA.out.kept (Ky.out.tr hX) (by simp)) HNA.out
        rw [hok.2] at hof2
        have HOG := hide hof2
        have heq : ∀ W, (Op.equalIn 10000 23 (.agg (bys I1).toArray) (.agg (bys I1).toArray)).run Tryz.prog W = .ok true W := fun W => by rw [Tryz.eqlID I1 I1 HTl.out HTl.out W, decide_eq_true (rfl : I1 = I1)]
        subst hgm
        clear hof2 hok HOD HGN HGL
        go_upto_region 35 with (fail)
        refine th wy fun h0 => ?_
        generalize World.drew wy = v0 at h0  ⊢
        refine t1 0 (.int .i64 0) h0 ?_
        simp only [zz]
        refine t1 1 (.bool false) h0 ?_
        simp only [zz]
        refine t1 2 (.bool false) h0 ?_
        simp only [zz]
        refine t1 3 (.slice oo gn oc) h0 ?_
        simp only [zz]
        refine t1 4 (.int .i64 gn) h0 ?_
        simp only [zz]
        refine t1 5 (.int .i64 gn) h0 ?_
        simp only [zz]
        refine t1 6 (.bool true) h0 ?_
        simp only [zz]
        refine t1 7 (.bool true) h0 ?_
        simp only [zz]
        refine t1 8 (.int .i64 W) h0 ?_
        simp only [zz]
        refine t1 9 (.slice oo gn oc) h0 ?_
        simp only [zz]
        refine t4 11 (.agg (bys I1).toArray) rfl (yieldsIf_load_mid (by rfl) _ _ rfl Tb 0 rfl (bys I1) _ (fun W h => fun j u hu => Kept.cellOf h (hrt j u hu) (by simp)) Tryz.underlying23 rfl hile1) h0 ?_
        simp only [zz]
        refine rd 10 fun K hK => ?_
        go_simp
        refine (HOG.out v0 h0).mono ?_
        rintro e v1 ⟨rfl, hq⟩
        refine hK.out _ _ (h0.tr hq) (fun h1 => ?_)
        clear hK K
        try simp only [zz]
        clear hq
        refine t2 12 (.bool true) rfl h1 ?_ (fun w hSw => by have c0 := heq w; go_simp)
        simp only [zz]
        refine t1 13 (.bool true) h1 ?_
        simp only [zz]
        refine t1 14 (.bool true) h1 ?_
        simp only [zz]
        refine t1 15 (.bool true) h1 ?_
        simp only [zz]
        refine qd ?_
        have HKF := hide (Kwy.out.tr h1)
        clear h1 hrt heq HOG
        go_wp2
        go_ret
        exact ⟨rfl, HKF.out.below0⟩
       ·have hcn : (ce != 0) = true := by simpa using hc0
        clear hc0 HOD
        go_upto_region 35 with (fail)
        refine th wy fun h0 => ?_
        generalize World.drew wy = v0 at h0  ⊢
        refine t1 0 (.int .i64 ce) h0 ?_
        simp only [zz]
        refine t1 1 (.bool true) h0 ?_
        simp only [zz]
        refine t1 2 (.bool true) h0 ?_
        simp only [zz]
        refine t3 3 h0 ?_
        simp only [zz]
        refine t3 4 h0 ?_
        simp only [zz]
        refine t3 5 h0 ?_
        simp only [zz]
        refine t3 6 h0 ?_
        simp only [zz]
        refine t3 7 h0 ?_
        simp only [zz]
        refine t3 8 h0 ?_
        simp only [zz]
        refine t3 9 h0 ?_
        simp only [zz]
        refine t3 10 h0 ?_
        simp only [zz]
        refine t3 11 h0 ?_
        simp only [zz]
        refine t3 12 h0 ?_
        simp only [zz]
        refine t3 13 h0 ?_
        simp only [zz]
        refine t1 14 (.bool true) h0 ?_
        simp only [zz]
        refine t1 15 (.bool true) h0 ?_
        simp only [zz]
        refine qd ?_
        have HKF := hide (Kwy.out.tr h0)
        clear h0
        go_wp2
        go_ret
        exact ⟨rfl, HKF.out.below0⟩
   ·have HG : Hid (nought W z32 = true) := zero_nought W
    have HTl : Hid (z32.length = 32) := z32_len
    have hNB : N0 <= 72057594037927935 := by omega
    have hMB : M0 <= 72057594037927935 := by omega
    obtain ⟨I1, hI1⟩ := nm (z32)
    rw [hI1] at HTc HG HTl
    clear hI1
    have hcase : honest = false ∨ W = 0 := by
     cases honest with
     | false => exact .inl rfl
     | true => exact .inr (by have : ¬ 1 <= W := fun h => hon ⟨rfl, h⟩; omega)
    clear hon
    rcases hcase with rfl | rfl
    ·as_aux_lemma =>
     have HQt := HQc
     have HTt := HTc
     have Kwt := Kwc
     have hrq : wc.rangeAt Q 0 (bys I0) := fun j u hu => by rw [Nat.zero_add, cell_of_row _ _ _ _ _ _ HQt.out]; simpa using hu
     have hrt : wc.rangeAt Tb 0 (bys I1) := fun j u hu => by rw [Nat.zero_add, cell_of_row _ _ _ _ _ _ HTt.out]; simpa using hu
     have hile1 := idlen HTl.out
     have hwr := rwrittenB_ok W Z N0 M0 I0 I1 so i sc (L.map Ta.tr) wc (by omega) hZ (by omega) (by omega) HI0.out HTl.out (by rw [List.length_map, HL.out]) (by omega) (((H2.out.kept Kwt.out).trs HOK.out)) (by have h := encT_mch (w := w) (L := L) (fun x hx => ⟨HOK.out x hx, by obtain ⟨k, hk⟩ := List.getElem?_of_mem hx; exact (H2.out k x hk).2⟩); rw [HMU.out] at h; omega)
     obtain ⟨WB, hWB⟩ := nm (writtenB W Z N0 I0 M0 I1 (L.map Ta.tr))
     have HOD : Hid (applyE xs WB = 0 -> (applyB xs WB).length = M0 ∧ Sha.ident ((W : Nat) : Int) (applyB xs WB) = I1) := by
      show _ -> _
      rw [<-hWB]
      exact own_done HI0.out HTl.out (by omega) HG.out
     rw [hWB] at hwr
     clear hWB
     go_upto_region 30 with (first
      | (refine wpList_load_mid rfl 23 (.tmp 17) rfl Q 0 rfl (bys I0) _ hrq Tryz.underlying23 rfl hile0 ?_; try simp only [z4, z5, z6, z7, z8])
      | (refine wpList_load_mid rfl 23 (.tmp 18) rfl Tb 0 rfl (bys I1) _ hrt Tryz.underlying23 rfl hile1 ?_; try simp only [z4, z5, z6, z7, z8])
      | (go_at_call 19; refine hwr.mono ?_; rintro r wd ⟨⟨po, pn, pc, rfl, hop⟩, hkd⟩; have OP := hide hop; have Kwd := hide (Kwt.out.tr hkd); have Kd := hide hkd; clear hwr hop hkd))
     clear hrq hrt
     have hpl := own_len OP.out
     have hrm := roomy_ok ao n cap xs wd H1.out.len (H1.out.sl.kept Kwd.out (by simp)) H1.out.nil hnm
     go_upto_region 31 with (go_at_call 20; refine hrm.mono ?_; rintro r we ⟨⟨g1, gc1, rfl, ho4, hgc1⟩, hk4⟩; have G4 := hide (ai ho4 (ai hgc1 hk4)); clear hrm ho4 hgc1 hk4)
     have HC1 := hide (cy_of G4.out.1 H1.out.len G4.out.2.1)
     have HCP : Hid (gc1 <= 9223372036854775807) := ownB_capw G4.out.1
     have OPe := hide (OP.out.kept G4.out.2.2 (by simp))
     have Kwe := hide (Kwd.out.tr G4.out.2.2)
     have Ke := hide (Kd.out.tr G4.out.2.2)
     obtain ⟨ce, hce⟩ : ∃ c, applyE xs WB = c := ⟨_, rfl⟩
     obtain ⟨G, hG⟩ := nm (applyB xs WB)
     obtain ⟨gn, hgn⟩ := nm (G.length)
     have HGN := hide hgn
     have HGL : Hid (gn <= 131072) := by show _ <= _; rw [<-hgn, <-hG]; exact applyB_lenw xs WB
     have hin8 := OPe.out.in8
     have HW8 := hide hin8
     have hP := apply_ok (some ⟨g1, 0, none⟩) n gc1 xs po pn pc WB we (cy_in8w HC1.out HCP.out) HW8.out
     have HR := hide (fun X (hX : Kept [] we X) => rapply_ok ao n cap xs po pn pc WB X (H1.out.in8.kept (Kwe.out.tr hX)) (HW8.out.kept hX))
     rw [hce, hG] at hP HR HOD
     clear hin8 hce hG hgn hpl OP OPe G4
     go_upto_region 32 with (go_at_call 16; refine hP.mono ?_; rintro r wf ⟨⟨oo, oc, rfl, hoa⟩, hkf⟩; have OA := hide (show OwnB wf we.heap.size (.slice oo G.length oc) G from hoa); rw [HGN.out]; have Kf := hide hkf; have hP2 := HR.out wf hkf; clear hP hoa hkf HR)
     go_upto_region 33 with (go_at_call 21; refine hP2.mono ?_; rintro r wg ⟨⟨qo, qc, rfl, hob⟩, hkg⟩; have OB := hide (show OwnB wg wf.heap.size (.slice qo G.length qc) G from hob); rw [HGN.out]; have Kg := hide hkg; clear hP2 hob hkg)
     have Kwg := hide ((Kwe.out.tr Kf.out).tr Kg.out)
     have Ktg := hide ((Ke.out.tr Kf.out).tr Kg.out)
     have HSA := hide (OA.out.in8.sl.kept Kg.out (by simp))
     have HSB := hide OB.out.in8.sl
     have HNA := hide OA.out.in8.nil
     have hsm := same_any oo qo gn oc gn qc G G wg HGN.out HGN.out (by have := HGL.out; omega) HSA.out HSB.out
     rw [decide_eq_true (rfl : G = G)] at hsm
     have HST := hide (fun X (hX : Kept [] wg X) => stands_ok g1 n gc1 xs ao cap X ((HC1.out.kept ((Kf.out.tr Kg.out).tr hX) (by simp))) (H1.out.sl.kept (Kwg.out.tr hX) (by simp)) hnm)
     go_upto_region 35 with (first
      | (go_at_call 22; refine hsm.mono ?_; rintro r wx ⟨rfl, kk, rfl⟩; have Kx := hide ((Kept.refl [] wg).drewN kk); have hst := HST.out _ Kx.out; clear hsm; generalize World.drewN wg kk = wx at Kx hst ⊢)
      | (go_at_call 23; refine hst.mono ?_; rintro r wy ⟨rfl, hky⟩; have Ky := hide (Kx.out.tr hky); clear hst hky))
     have Kwy := hide (Kwg.out.tr Ky.out)
     clear HST
     by_cases hc0 : ce = 0
     ·subst hc0
      have hok := HOD.out rfl
      have hgm : gn = M0 := by rw [<-HGN.out]; exact hok.1
      have hrt : wy.rangeAt Tb 0 (bys I1) := fun j u hu => (Ktg.out.tr Ky.out).cellOf (by rw [Nat.zero_add, cell_of_row _ _ _ _ _ _ HTt.out]; simpa using hu) (by simp)
      have hof2 := fun X (hX : Kept [] wy X) => rof_ok ((W : Nat) : Int) oo gn oc G X HGN.out (by have := HGL.out; omega) (HSA.out.kept (Ky.out.tr hX) (by simp)) HNA.out
      rw [hok.2] at hof2
      have HOG := hide hof2
      have heq : ∀ W, (Op.equalIn 10000 23 (.agg (bys I1).toArray) (.agg (bys I1).toArray)).run Tryz.prog W = .ok true W := fun W => by rw [Tryz.eqlID I1 I1 HTl.out HTl.out W, decide_eq_true (rfl : I1 = I1)]
      subst hgm
      clear hof2 hok HOD HGN HGL
      go_upto_region 35 with (fail)
      refine th wy fun h0 => ?_
      generalize World.drew wy = v0 at h0  ⊢
      refine t1 0 (.int .i64 0) h0 ?_
      simp only [zz]
      refine t1 1 (.bool false) h0 ?_
      simp only [zz]
      refine t1 2 (.bool false) h0 ?_
      simp only [zz]
      refine t1 3 (.slice oo gn oc) h0 ?_
      simp only [zz]
      refine t1 4 (.int .i64 gn) h0 ?_
      simp only [zz]
      refine t1 5 (.int .i64 gn) h0 ?_
      simp only [zz]
      refine t1 6 (.bool true) h0 ?_
      simp only [zz]
      refine t1 7 (.bool true) h0 ?_
      simp only [zz]
      refine t1 8 (.int .i64 W) h0 ?_
      simp only [zz]
      refine t1 9 (.slice oo gn oc) h0 ?_
      simp only [zz]
      refine t4 11 (.agg (bys I1).toArray) rfl (yieldsIf_load_mid (by rfl) _ _ rfl Tb 0 rfl (bys I1) _ (fun W h => fun j u hu => Kept.cellOf h (hrt j u hu) (by simp)) Tryz.underlying23 rfl hile1) h0 ?_
      simp only [zz]
      refine rd 10 fun K hK => ?_
      go_simp
      refine (HOG.out v0 h0).mono ?_
      rintro e v1 ⟨rfl, hq⟩
      refine hK.out _ _ (h0.tr hq) (fun h1 => ?_)
      clear hK K
      try simp only [zz]
      clear hq
      refine t2 12 (.bool true) rfl h1 ?_ (fun w hSw => by have c0 := heq w; go_simp)
      simp only [zz]
      refine t1 13 (.bool true) h1 ?_
      simp only [zz]
      refine t1 14 (.bool true) h1 ?_
      simp only [zz]
      refine t1 15 (.bool true) h1 ?_
      simp only [zz]
      refine qd ?_
      have HKF := hide (Kwy.out.tr h1)
      clear h1 hrt heq HOG
      go_wp2
      go_ret
      exact ⟨rfl, HKF.out.below0⟩
     ·have hcn : (ce != 0) = true := by simpa using hc0
      clear hc0 HOD
      go_upto_region 35 with (fail)
      refine th wy fun h0 => ?_
      generalize World.drew wy = v0 at h0  ⊢
      refine t1 0 (.int .i64 ce) h0 ?_
      simp only [zz]
      refine t1 1 (.bool true) h0 ?_
      simp only [zz]
      refine t1 2 (.bool true) h0 ?_
      simp only [zz]
      refine t3 3 h0 ?_
      simp only [zz]
      refine t3 4 h0 ?_
      simp only [zz]
      refine t3 5 h0 ?_
      simp only [zz]
      refine t3 6 h0 ?_
      simp only [zz]
      refine t3 7 h0 ?_
      simp only [zz]
      refine t3 8 h0 ?_
      simp only [zz]
      refine t3 9 h0 ?_
      simp only [zz]
      refine t3 10 h0 ?_
      simp only [zz]
      refine t3 11 h0 ?_
      simp only [zz]
      refine t3 12 h0 ?_
      simp only [zz]
      refine t3 13 h0 ?_
      simp only [zz]
      refine t1 14 (.bool true) h0 ?_
      simp only [zz]
      refine t1 15 (.bool true) h0 ?_
      simp only [zz]
      refine qd ?_
      have HKF := hide (Kwy.out.tr h0)
      clear h0
      go_wp2
      go_ret
      exact ⟨rfl, HKF.out.below0⟩
    ·as_aux_lemma =>
     cases honest with
     | false =>
      have HQt := HQc
      have HTt := HTc
      have Kwt := Kwc
      have hrq : wc.rangeAt Q 0 (bys I0) := fun j u hu => by rw [Nat.zero_add, cell_of_row _ _ _ _ _ _ HQt.out]; simpa using hu
      have hrt : wc.rangeAt Tb 0 (bys I1) := fun j u hu => by rw [Nat.zero_add, cell_of_row _ _ _ _ _ _ HTt.out]; simpa using hu
      have hile1 := idlen HTl.out
      have hwr := rwrittenB_ok 0 Z N0 M0 I0 I1 so i sc (L.map Ta.tr) wc (by omega) hZ (by omega) (by omega) HI0.out HTl.out (by rw [List.length_map, HL.out]) (by omega) (((H2.out.kept Kwt.out).trs HOK.out)) (by have h := encT_mch (w := w) (L := L) (fun x hx => ⟨HOK.out x hx, by obtain ⟨k, hk⟩ := List.getElem?_of_mem hx; exact (H2.out k x hk).2⟩); rw [HMU.out] at h; omega)
      obtain ⟨WB, hWB⟩ := nm (writtenB 0 Z N0 I0 M0 I1 (L.map Ta.tr))
      have HOD : Hid (applyE xs WB = 0 -> (applyB xs WB).length = M0 ∧ Sha.ident ((0 : Nat) : Int) (applyB xs WB) = I1) := by
       show _ -> _
       rw [<-hWB]
       exact own_done HI0.out HTl.out (by omega) HG.out
      rw [hWB] at hwr
      clear hWB
      go_upto_region 30 with (first
       | (refine wpList_load_mid rfl 23 (.tmp 17) rfl Q 0 rfl (bys I0) _ hrq Tryz.underlying23 rfl hile0 ?_; try simp only [z4, z5, z6, z7, z8])
       | (refine wpList_load_mid rfl 23 (.tmp 18) rfl Tb 0 rfl (bys I1) _ hrt Tryz.underlying23 rfl hile1 ?_; try simp only [z4, z5, z6, z7, z8])
       | (go_at_call 19; refine hwr.mono ?_; rintro r wd ⟨⟨po, pn, pc, rfl, hop⟩, hkd⟩; have OP := hide hop; have Kwd := hide (Kwt.out.tr hkd); have Kd := hide hkd; clear hwr hop hkd))
      clear hrq hrt
      have hpl := own_len OP.out
      have hrm := roomy_ok ao n cap xs wd H1.out.len (H1.out.sl.kept Kwd.out (by simp)) H1.out.nil hnm
      go_upto_region 31 with (go_at_call 20; refine hrm.mono ?_; rintro r we ⟨⟨g1, gc1, rfl, ho4, hgc1⟩, hk4⟩; have G4 := hide (ai ho4 (ai hgc1 hk4)); clear hrm ho4 hgc1 hk4)
      have HC1 := hide (cy_of G4.out.1 H1.out.len G4.out.2.1)
      have HCP : Hid (gc1 <= 9223372036854775807) := ownB_capw G4.out.1
      have OPe := hide (OP.out.kept G4.out.2.2 (by simp))
      have Kwe := hide (Kwd.out.tr G4.out.2.2)
      have Ke := hide (Kd.out.tr G4.out.2.2)
      obtain ⟨ce, hce⟩ : ∃ c, applyE xs WB = c := ⟨_, rfl⟩
      obtain ⟨G, hG⟩ := nm (applyB xs WB)
      obtain ⟨gn, hgn⟩ := nm (G.length)
      have HGN := hide hgn
      have HGL : Hid (gn <= 131072) := by show _ <= _; rw [<-hgn, <-hG]; exact applyB_lenw xs WB
      have hin8 := OPe.out.in8
      have HW8 := hide hin8
      have hP := apply_ok (some ⟨g1, 0, none⟩) n gc1 xs po pn pc WB we (cy_in8w HC1.out HCP.out) HW8.out
      have HR := hide (fun X (hX : Kept [] we X) => rapply_ok ao n cap xs po pn pc WB X (H1.out.in8.kept (Kwe.out.tr hX)) (HW8.out.kept hX))
      rw [hce, hG] at hP HR HOD
      clear hin8 hce hG hgn hpl OP OPe G4
      go_upto_region 32 with (go_at_call 16; refine hP.mono ?_; rintro r wf ⟨⟨oo, oc, rfl, hoa⟩, hkf⟩; have OA := hide (show OwnB wf we.heap.size (.slice oo G.length oc) G from hoa); rw [HGN.out]; have Kf := hide hkf; have hP2 := HR.out wf hkf; clear hP hoa hkf HR)
      go_upto_region 33 with (go_at_call 21; refine hP2.mono ?_; rintro r wg ⟨⟨qo, qc, rfl, hob⟩, hkg⟩; have OB := hide (show OwnB wg wf.heap.size (.slice qo G.length qc) G from hob); rw [HGN.out]; have Kg := hide hkg; clear hP2 hob hkg)
      have Kwg := hide ((Kwe.out.tr Kf.out).tr Kg.out)
      have Ktg := hide ((Ke.out.tr Kf.out).tr Kg.out)
      have HSA := hide (OA.out.in8.sl.kept Kg.out (by simp))
      have HSB := hide OB.out.in8.sl
      have HNA := hide OA.out.in8.nil
      have hsm := same_any oo qo gn oc gn qc G G wg HGN.out HGN.out (by have := HGL.out; omega) HSA.out HSB.out
      rw [decide_eq_true (rfl : G = G)] at hsm
      have HST := hide (fun X (hX : Kept [] wg X) => stands_ok g1 n gc1 xs ao cap X ((HC1.out.kept ((Kf.out.tr Kg.out).tr hX) (by simp))) (H1.out.sl.kept (Kwg.out.tr hX) (by simp)) hnm)
      go_upto_region 35 with (first
       | (go_at_call 22; refine hsm.mono ?_; rintro r wx ⟨rfl, kk, rfl⟩; have Kx := hide ((Kept.refl [] wg).drewN kk); have hst := HST.out _ Kx.out; clear hsm; generalize World.drewN wg kk = wx at Kx hst ⊢)
       | (go_at_call 23; refine hst.mono ?_; rintro r wy ⟨rfl, hky⟩; have Ky := hide (Kx.out.tr hky); clear hst hky))
      have Kwy := hide (Kwg.out.tr Ky.out)
      clear HST
      by_cases hc0 : ce = 0
      ·subst hc0
       have hok := HOD.out rfl
       have hgm : gn = M0 := by rw [<-HGN.out]; exact hok.1
       have hrt : wy.rangeAt Tb 0 (bys I1) := fun j u hu => (Ktg.out.tr Ky.out).cellOf (by rw [Nat.zero_add, cell_of_row _ _ _ _ _ _ HTt.out]; simpa using hu) (by simp)
       have hof2 := fun X (hX : Kept [] wy X) => rof_ok ((0 : Nat) : Int) oo gn oc G X HGN.out (by have := HGL.out; omega) (HSA.out.kept (Ky.out.tr hX) (by simp)) HNA.out
       rw [hok.2] at hof2
       have HOG := hide hof2
       have heq : ∀ W, (Op.equalIn 10000 23 (.agg (bys I1).toArray) (.agg (bys I1).toArray)).run Tryz.prog W = .ok true W := fun W => by rw [Tryz.eqlID I1 I1 HTl.out HTl.out W, decide_eq_true (rfl : I1 = I1)]
       subst hgm
       clear hof2 hok HOD HGN HGL
       go_upto_region 35 with (fail)
       refine th wy fun h0 => ?_
       generalize World.drew wy = v0 at h0  ⊢
       refine t1 0 (.int .i64 0) h0 ?_
       simp only [zz]
       refine t1 1 (.bool false) h0 ?_
       simp only [zz]
       refine t1 2 (.bool false) h0 ?_
       simp only [zz]
       refine t1 3 (.slice oo gn oc) h0 ?_
       simp only [zz]
       refine t1 4 (.int .i64 gn) h0 ?_
       simp only [zz]
       refine t1 5 (.int .i64 gn) h0 ?_
       simp only [zz]
       refine t1 6 (.bool true) h0 ?_
       simp only [zz]
       refine t1 7 (.bool true) h0 ?_
       simp only [zz]
       refine t1 8 (.int .i64 0) h0 ?_
       simp only [zz]
       refine t1 9 (.slice oo gn oc) h0 ?_
       simp only [zz]
       refine t4 11 (.agg (bys I1).toArray) rfl (yieldsIf_load_mid (by rfl) _ _ rfl Tb 0 rfl (bys I1) _ (fun W h => fun j u hu => Kept.cellOf h (hrt j u hu) (by simp)) Tryz.underlying23 rfl hile1) h0 ?_
       simp only [zz]
       refine rd 10 fun K hK => ?_
       go_simp
       refine (HOG.out v0 h0).mono ?_
       rintro e v1 ⟨rfl, hq⟩
       refine hK.out _ _ (h0.tr hq) (fun h1 => ?_)
       clear hK K
       try simp only [zz]
       clear hq
       refine t2 12 (.bool true) rfl h1 ?_ (fun w hSw => by have c0 := heq w; go_simp)
       simp only [zz]
       refine t1 13 (.bool true) h1 ?_
       simp only [zz]
       refine t1 14 (.bool true) h1 ?_
       simp only [zz]
       refine t1 15 (.bool true) h1 ?_
       simp only [zz]
       refine qd ?_
       have HKF := hide (Kwy.out.tr h1)
       clear h1 hrt heq HOG
       go_wp2
       go_ret
       exact ⟨rfl, HKF.out.below0⟩
      ·have hcn : (ce != 0) = true := by simpa using hc0
       clear hc0 HOD
       go_upto_region 35 with (fail)
       refine th wy fun h0 => ?_
       generalize World.drew wy = v0 at h0  ⊢
       refine t1 0 (.int .i64 ce) h0 ?_
       simp only [zz]
       refine t1 1 (.bool true) h0 ?_
       simp only [zz]
       refine t1 2 (.bool true) h0 ?_
       simp only [zz]
       refine t3 3 h0 ?_
       simp only [zz]
       refine t3 4 h0 ?_
       simp only [zz]
       refine t3 5 h0 ?_
       simp only [zz]
       refine t3 6 h0 ?_
       simp only [zz]
       refine t3 7 h0 ?_
       simp only [zz]
       refine t3 8 h0 ?_
       simp only [zz]
       refine t3 9 h0 ?_
       simp only [zz]
       refine t3 10 h0 ?_
       simp only [zz]
       refine t3 11 h0 ?_
       simp only [zz]
       refine t3 12 h0 ?_
       simp only [zz]
       refine t3 13 h0 ?_
       simp only [zz]
       refine t1 14 (.bool true) h0 ?_
       simp only [zz]
       refine t1 15 (.bool true) h0 ?_
       simp only [zz]
       refine qd ?_
       have HKF := hide (Kwy.out.tr h0)
       clear h0
       go_wp2
       go_ret
       exact ⟨rfl, HKF.out.below0⟩
     | true =>
      have hw0 : ¬ (1 : Int) <= 0 := by decide
      have HQt := HQc
      have HTt := HTc
      have Kwt := Kwc
      have hrq : wc.rangeAt Q 0 (bys I0) := fun j u hu => by rw [Nat.zero_add, cell_of_row _ _ _ _ _ _ HQt.out]; simpa using hu
      have hrt : wc.rangeAt Tb 0 (bys I1) := fun j u hu => by rw [Nat.zero_add, cell_of_row _ _ _ _ _ _ HTt.out]; simpa using hu
      have hile1 := idlen HTl.out
      have hwr := rwrittenB_ok 0 Z N0 M0 I0 I1 so i sc (L.map Ta.tr) wc (by omega) hZ (by omega) (by omega) HI0.out HTl.out (by rw [List.length_map, HL.out]) (by omega) (((H2.out.kept Kwt.out).trs HOK.out)) (by have h := encT_mch (w := w) (L := L) (fun x hx => ⟨HOK.out x hx, by obtain ⟨k, hk⟩ := List.getElem?_of_mem hx; exact (H2.out k x hk).2⟩); rw [HMU.out] at h; omega)
      obtain ⟨WB, hWB⟩ := nm (writtenB 0 Z N0 I0 M0 I1 (L.map Ta.tr))
      have HOD : Hid (applyE xs WB = 0 -> (applyB xs WB).length = M0 ∧ Sha.ident ((0 : Nat) : Int) (applyB xs WB) = I1) := by
       show _ -> _
       rw [<-hWB]
       exact own_done HI0.out HTl.out (by omega) HG.out
      rw [hWB] at hwr
      clear hWB
      go_upto_region 30 with (first
       | (refine wpList_load_mid rfl 23 (.tmp 17) rfl Q 0 rfl (bys I0) _ hrq Tryz.underlying23 rfl hile0 ?_; try simp only [z4, z5, z6, z7, z8])
       | (refine wpList_load_mid rfl 23 (.tmp 18) rfl Tb 0 rfl (bys I1) _ hrt Tryz.underlying23 rfl hile1 ?_; try simp only [z4, z5, z6, z7, z8])
       | (go_at_call 19; refine hwr.mono ?_; rintro r wd ⟨⟨po, pn, pc, rfl, hop⟩, hkd⟩; have OP := hide hop; have Kwd := hide (Kwt.out.tr hkd); have Kd := hide hkd; clear hwr hop hkd))
      clear hrq hrt
      have hpl := own_len OP.out
      have hrm := roomy_ok ao n cap xs wd H1.out.len (H1.out.sl.kept Kwd.out (by simp)) H1.out.nil hnm
      go_upto_region 31 with (go_at_call 20; refine hrm.mono ?_; rintro r we ⟨⟨g1, gc1, rfl, ho4, hgc1⟩, hk4⟩; have G4 := hide (ai ho4 (ai hgc1 hk4)); clear hrm ho4 hgc1 hk4)
      have HC1 := hide (cy_of G4.out.1 H1.out.len G4.out.2.1)
      have HCP : Hid (gc1 <= 9223372036854775807) := ownB_capw G4.out.1
      have OPe := hide (OP.out.kept G4.out.2.2 (by simp))
      have Kwe := hide (Kwd.out.tr G4.out.2.2)
      have Ke := hide (Kd.out.tr G4.out.2.2)
      obtain ⟨ce, hce⟩ : ∃ c, applyE xs WB = c := ⟨_, rfl⟩
      obtain ⟨G, hG⟩ := nm (applyB xs WB)
      obtain ⟨gn, hgn⟩ := nm (G.length)
      have HGN := hide hgn
      have HGL : Hid (gn <= 131072) := by show _ <= _; rw [<-hgn, <-hG]; exact applyB_lenw xs WB
      have hin8 := OPe.out.in8
      have HW8 := hide hin8
      have hP := apply_ok (some ⟨g1, 0, none⟩) n gc1 xs po pn pc WB we (cy_in8w HC1.out HCP.out) HW8.out
      have HR := hide (fun X (hX : Kept [] we X) => rapply_ok ao n cap xs po pn pc WB X (H1.out.in8.kept (Kwe.out.tr hX)) (HW8.out.kept hX))
      rw [hce, hG] at hP HR HOD
      clear hin8 hce hG hgn hpl OP OPe G4
      go_upto_region 32 with (go_at_call 16; refine hP.mono ?_; rintro r wf ⟨⟨oo, oc, rfl, hoa⟩, hkf⟩; have OA := hide (show OwnB wf we.heap.size (.slice oo G.length oc) G from hoa); rw [HGN.out]; have Kf := hide hkf; have hP2 := HR.out wf hkf; clear hP hoa hkf HR)
      go_upto_region 33 with (go_at_call 21; refine hP2.mono ?_; rintro r wg ⟨⟨qo, qc, rfl, hob⟩, hkg⟩; have OB := hide (show OwnB wg wf.heap.size (.slice qo G.length qc) G from hob); rw [HGN.out]; have Kg := hide hkg; clear hP2 hob hkg)
      have Kwg := hide ((Kwe.out.tr Kf.out).tr Kg.out)
      have Ktg := hide ((Ke.out.tr Kf.out).tr Kg.out)
      have HSA := hide (OA.out.in8.sl.kept Kg.out (by simp))
      have HSB := hide OB.out.in8.sl
      have HNA := hide OA.out.in8.nil
      have hsm := same_any oo qo gn oc gn qc G G wg HGN.out HGN.out (by have := HGL.out; omega) HSA.out HSB.out
      rw [decide_eq_true (rfl : G = G)] at hsm
      have HST := hide (fun X (hX : Kept [] wg X) => stands_ok g1 n gc1 xs ao cap X ((HC1.out.kept ((Kf.out.tr Kg.out).tr hX) (by simp))) (H1.out.sl.kept (Kwg.out.tr hX) (by simp)) hnm)
      go_upto_region 35 with (first
       | (go_at_call 22; refine hsm.mono ?_; rintro r wx ⟨rfl, kk, rfl⟩; have Kx := hide ((Kept.refl [] wg).drewN kk); have hst := HST.out _ Kx.out; clear hsm; generalize World.drewN wg kk = wx at Kx hst ⊢)
       | (go_at_call 23; refine hst.mono ?_; rintro r wy ⟨rfl, hky⟩; have Ky := hide (Kx.out.tr hky); clear hst hky))
      have Kwy := hide (Kwg.out.tr Ky.out)
      clear HST
      by_cases hc0 : ce = 0
      ·subst hc0
       have hok := HOD.out rfl
       have hgm : gn = M0 := by rw [<-HGN.out]; exact hok.1
       have hrt : wy.rangeAt Tb 0 (bys I1) := fun j u hu => (Ktg.out.tr Ky.out).cellOf (by rw [Nat.zero_add, cell_of_row _ _ _ _ _ _ HTt.out]; simpa using hu) (by simp)
       have hof2 := fun X (hX : Kept [] wy X) => rof_ok ((0 : Nat) : Int) oo gn oc G X HGN.out (by have := HGL.out; omega) (HSA.out.kept (Ky.out.tr hX) (by simp)) HNA.out
       rw [hok.2] at hof2
       have HOG := hide hof2
       have heq : ∀ W, (Op.equalIn 10000 23 (.agg (bys I1).toArray) (.agg (bys I1).toArray)).run Tryz.prog W = .ok true W := fun W => by rw [Tryz.eqlID I1 I1 HTl.out HTl.out W, decide_eq_true (rfl : I1 = I1)]
       subst hgm
       clear hof2 hok HOD HGN HGL
       go_upto_region 35 with (fail)
       refine th wy fun h0 => ?_
       generalize World.drew wy = v0 at h0  ⊢
       refine t1 0 (.int .i64 0) h0 ?_
       simp only [zz]
       refine t1 1 (.bool false) h0 ?_
       simp only [zz]
       refine t1 2 (.bool false) h0 ?_
       simp only [zz]
       refine t1 3 (.slice oo gn oc) h0 ?_
       simp only [zz]
       refine t1 4 (.int .i64 gn) h0 ?_
       simp only [zz]
       refine t1 5 (.int .i64 gn) h0 ?_
       simp only [zz]
       refine t1 6 (.bool true) h0 ?_
       simp only [zz]
       refine t1 7 (.bool true) h0 ?_
       simp only [zz]
       refine t1 8 (.int .i64 0) h0 ?_
       simp only [zz]
       refine t1 9 (.slice oo gn oc) h0 ?_
       simp only [zz]
       refine t4 11 (.agg (bys I1).toArray) rfl (yieldsIf_load_mid (by rfl) _ _ rfl Tb 0 rfl (bys I1) _ (fun W h => fun j u hu => Kept.cellOf h (hrt j u hu) (by simp)) Tryz.underlying23 rfl hile1) h0 ?_
       simp only [zz]
       refine rd 10 fun K hK => ?_
       go_simp
       refine (HOG.out v0 h0).mono ?_
       rintro e v1 ⟨rfl, hq⟩
       refine hK.out _ _ (h0.tr hq) (fun h1 => ?_)
       clear hK K
       try simp only [zz]
       clear hq
       refine t2 12 (.bool true) rfl h1 ?_ (fun w hSw => by have c0 := heq w; go_simp)
       simp only [zz]
       refine t1 13 (.bool true) h1 ?_
       simp only [zz]
       refine t1 14 (.bool true) h1 ?_
       simp only [zz]
       refine t1 15 (.bool true) h1 ?_
       simp only [zz]
       refine qd ?_
       have HKF := hide (Kwy.out.tr h1)
       clear h1 hrt heq HOG
       go_wp2
       go_ret
       exact ⟨rfl, HKF.out.below0⟩
      ·have hcn : (ce != 0) = true := by simpa using hc0
       clear hc0 HOD
       go_upto_region 35 with (fail)
       refine th wy fun h0 => ?_
       generalize World.drew wy = v0 at h0  ⊢
       refine t1 0 (.int .i64 ce) h0 ?_
       simp only [zz]
       refine t1 1 (.bool true) h0 ?_
       simp only [zz]
       refine t1 2 (.bool true) h0 ?_
       simp only [zz]
       refine t3 3 h0 ?_
       simp only [zz]
       refine t3 4 h0 ?_
       simp only [zz]
       refine t3 5 h0 ?_
       simp only [zz]
       refine t3 6 h0 ?_
       simp only [zz]
       refine t3 7 h0 ?_
       simp only [zz]
       refine t3 8 h0 ?_
       simp only [zz]
       refine t3 9 h0 ?_
       simp only [zz]
       refine t3 10 h0 ?_
       simp only [zz]
       refine t3 11 h0 ?_
       simp only [zz]
       refine t3 12 h0 ?_
       simp only [zz]
       refine t3 13 h0 ?_
       simp only [zz]
       refine t1 14 (.bool true) h0 ?_
       simp only [zz]
       refine t1 15 (.bool true) h0 ?_
       simp only [zz]
       refine qd ?_
       have HKF := hide (Kwy.out.tr h0)
       clear h0
       go_wp2
       go_ret
       exact ⟨rfl, HKF.out.below0⟩
theorem ownd_walk (width size : Int) (ao : Option Addr) (n cap : Nat) (length nn : Int) (so : Option Addr) (sn sc : Nat) (honest : Bool) (xs : List UInt8) (L : List Ta) (w : World) (h1 : InB w ao n cap xs) (h2 : TasAt w so L) (hL : L.length = sn) (hsn : sn <= 9223372036854775807) :
  Calls Tryz.prog 5 #[.int .i64 width, .int .i64 size, .slice ao n cap, .int .i64 length, .int .i64 nn, .slice so sn sc, .bool honest] w fun e w' => e = .returned (.bool true) ∧ Below w.heap.size w w' := by
 by_cases hg : 0 <= length ∧ length <= 2147483647 ∧ 0 <= nn ∧ nn <= 2147483647 ∧ 0 <= width ∧ width <= 32 ∧ 0 <= size ∧ size <= 2147483647
 ·obtain ⟨W, rfl⟩ := Int.eq_ofNat_of_zero_le hg.2.2.2.2.1
  obtain ⟨Z, rfl⟩ := Int.eq_ofNat_of_zero_le hg.2.2.2.2.2.2.1
  obtain ⟨N0, rfl⟩ := Int.eq_ofNat_of_zero_le hg.1
  obtain ⟨M0, rfl⟩ := Int.eq_ofNat_of_zero_le hg.2.2.1
  exact ownd_in W Z ao n cap N0 M0 so sn sc honest xs L w h1 h2 hL hsn (by omega) (by omega) (by omega) (by omega)
 ·exact ownd_out width size ao n cap length nn so sn sc honest xs L w h1 hg
end Go.Proofs.YtmklodligplbaabGreat
