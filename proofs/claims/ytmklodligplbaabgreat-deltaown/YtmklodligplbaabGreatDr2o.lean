import Derived.Test.YtmklodligplbaabGreatRf3o
open Go.RowKit
set_option linter.unusedVariables false
set_option linter.unusedSimpArgs false
set_option maxRecDepth 100000
set_option maxHeartbeats 0
namespace Go.Proofs.YtmklodligplbaabGreat
section
theorem one_cells (w : World) (c : Value) (t : TypeId) (fr : Nat × Nat) : ∀ (j : Nat) (u : Value), [c][j]? = some u -> (w.alloc (.cells #[c] t fr)).cell? ((⟨w.heap.size, 0, none⟩ : Addr).add j) = some u := by
 intro j u hu
 cases j with
 | zero =>
  simp at hu
  subst hu
  rw [Addr.add_mid, Nat.zero_add, World.cell?_alloc_mark]
  simp
 | succ j => simp at hu
theorem one_cells_at (w : World) (c : Value) (t : TypeId) (fr : Nat × Nat) (g : Nat) (hg : g = w.heap.size) : ∀ (j : Nat) (u : Value), [c][j]? = some u -> (w.alloc (.cells #[c] t fr)).cell? ((⟨g, 0, none⟩ : Addr).add j) = some u := by
 subst hg
 exact one_cells w c t fr
theorem bys_one (c : UInt8) (n : Int) (h : n = (c.toNat : Int)) : [Value.int .u8 n] = bys [c] := by rw [h]; rfl
structure Grow (w wr : World) (v : Value) (ys : List UInt8) : Prop where
 own : wr.ownsRow w.heap.size 5 1 v ys.length (bys ys)
 kept : Kept [] w wr
theorem Grow.shape {w wr : World} {v : Value} {ys : List UInt8} (h : Grow w wr v ys) (hn : v ≠ .slice none 0 0) : ∃ g cap, v = .slice (some ⟨g, 0, none⟩) ys.length cap ∧ w.heap.size <= g ∧ g < wr.heap.size ∧ ys.length <= cap ∧ Sl wr (some ⟨g, 0, none⟩) ys := own_sl h.own hn
theorem Grow.one {w wr w1 : World} {v v' : Value} {ys : List UInt8} {o : Obj} {c : UInt8} {n : Int} (h : Grow w wr v ys) (hn : n = (c.toNat : Int))
  (hown : w1.ownsRow w.heap.size 5 1 v' (ys.length + 1) (bys ys ++ [.int .u8 n])) (hgrow : (wr.alloc o).grownBy w1 v.ownBlock) : Grow w w1 v' (ys ++ [c]) := by
 refine ⟨?_, (h.kept.alloc _).grown hgrow (fun k hk hlt => by have := (h.own.lt k hk).1; omega)⟩
 rw [bys_one c n hn, <-bys_append] at hown
 simpa using hown
theorem zeros_more (m n j : Nat) (hs : 9 <= n ∧ n <= 72 ∧ (m + n) % 64 = 0) (hj : j <= n - 9) : (m + 1 + j) % 64 = 56 ↔ j = n - 9 := by omega
theorem be8_get (N j : Nat) (hj : j < 8) : (Sha.be8 N).take (j + 1) = (Sha.be8 N).take j ++ [UInt8.ofNat (N / 256 ^ (7 - j) % 256)] := by
 rw [List.take_succ_eq_append_getElem (by rw [Sha.be8_len]; exact hj)]
 simp [Sha.be8]
theorem row_any (ao : Option Addr) (cap : Nat) (m : List UInt8) (w : World) (hs : Sl w ao m) (hnl : ao = none -> m = [] ∧ cap = 0) (hlen : m.length <= 140737488351232) (n : Nat) (hn : m.length = n) :
  Calls Tryz.prog 82 #[.slice ao n cap] w fun e w' => ∃ g c, e = .returned (.slice (some ⟨g, 0, none⟩) (n + Sha.size n) c) ∧ w.heap.size <= g ∧ g < w'.heap.size ∧ n + Sha.size n <= c ∧ Sl w' (some ⟨g, 0, none⟩) (m ++ Sha.ending n) ∧ Below w.heap.size w w' := by
 obtain ⟨i0, hi, hz0, hz1, hz2⟩ := info_parts Tryz.infoByteD
 have HN : Hid (m.length = n) := hn
 rw [hn] at hlen
 have hsrc : Hid (Sl (w.alloc (.cells #[] 5)) ao m) := hs.kept ((Kept.refl [] w).alloc _) (by simp)
 have HNL : Hid (ao = none -> m = [] ∧ cap = 0) := hnl
 clear hnl
 clear hs hn
 have HZ : Hid (9 <= Sha.size n ∧ Sha.size n <= 72 ∧ (n + Sha.size n) % 64 = 0) := Sha.size_ge n
 have HE : Hid (Sha.ending n = 128 :: (List.replicate (Sha.size n - 9) 0 ++ Sha.be8 (8 * n % 18446744073709551616))) := rfl
 obtain ⟨z, hz⟩ : ∃ z, z = Sha.size n := ⟨_, rfl⟩
 rw [<-hz] at HZ HE ⊢
 have hzz := HZ.out
 have h8 : 8 * n % 18446744073709551616 = 8 * n := by omega
 rw [h8] at HE
 clear h8 hz
 go_enter Tryz.func82, Tryz.ntmps82
 have hO0 : (w.alloc (.cells #[] 5)).ownsRow w.heap.size 5 1 (.slice (some ⟨w.heap.size, 0, none⟩) 0 0) 0 [] := World.ownsRow_made w #[] 0 (Nat.le_refl _) (by decide) rfl
 go_wp2_with (at_builtin; refine wpList_append_fresh _ rfl _ _ rfl w.heap.size w.heap.size rfl hO0 ao n cap m rfl hsrc.out HN.out HNL.out (by omega) (by simp) ?_)
 intro g0 c0 w0 hown hgrow
 have HR0 : Hid (Grow w w0 (.slice (some ⟨g0, 0, none⟩) n c0) m) := by
  refine ⟨?_, ((Kept.refl [] w).alloc _).grown hgrow (by intro k hk hlt; simp [Value.ownBlock] at hk; omega)⟩
  rw [HN.out]
  exact hown
 clear hown hgrow hsrc hO0 HNL
 go_wp2_with (at_builtin; refine wpList_append_own _ rfl _ _ 27 rfl w.heap.size 5 i0 (.int .u8 0) 1 1 Tryz.underlying27 hi hz0 hz1 hz2 rfl (by decide) _ _ _ rfl (HR0.out.own.alloc _) ⟨w0.heap.size, 0, none⟩ 1 1 [.int .u8 128] rfl rfl (one_cells_at _ _ _ _ _ rfl) (by simp [Value.oneCell']) ?c3 ?c4 ?c5 ?_)
 case c3 => rw [HN.out]; unfold maxLen; omega
 case c4 => rw [HN.out]; omega
 case c5 => have := HR0.out.kept.size; simp; omega
 intro v' w1 hown hgrow hnn
 have HR : Hid (Grow w w1 v' (m ++ 128 :: List.replicate 0 0)) := HR0.out.one rfl hown hgrow
 obtain ⟨g1, c1, hv1, _⟩ := HR.out.shape hnn
 rw [show (m ++ 128 :: List.replicate 0 (0 : UInt8)).length = n + 1 by rw [<-HN.out]; simp] at hv1
 rw [hv1] at HR ⊢
 clear hown hgrow hnn HR0 hv1
 go_wp2
 go_loopw [3] (fun v wr => ∃ j g c : Nat, j <= z - 9 ∧ v = .slice (some ⟨g, 0, none⟩) (n + 1 + j) c ∧ Hid (Grow w wr (.slice (some ⟨g, 0, none⟩) (n + 1 + j) c) (m ++ 128 :: List.replicate j 0))) (fun v wr => n + z - lenOfD v)
 case atStart =>
  exact ⟨0, g1, c1, by omega, rfl, HR⟩
 case round =>
  clear HR
  obtain ⟨j, g, c, hj, rfl, HR⟩ := hrel
  have hlj : (m ++ 128 :: List.replicate j (0 : UInt8)).length = n + 1 + j := by rw [<-HN.out]; simp; omega
  have hiff := zeros_more n z j hzz hj
  by_cases hlt : j < z - 9
  ·have htm : ((n : Int) + 1 + (j : Int)).tmod 64 ≠ 56 := by
    rw [Int.tmod_eq_emod_of_nonneg (by omega)]
    intro h
    have : (n + 1 + j) % 64 = 56 := by omega
    have := hiff.1 this
    omega
   have htb : (((n : Int) + 1 + (j : Int)) % 64 != 56) = true := by
    rw [Int.tmod_eq_emod_of_nonneg (by omega)] at htm
    simpa using htm
   clear htm hiff
   have hown := HR.out.own.alloc (.cells #[.int .u8 0] 5)
   rw [hlj] at hown
   go_wp2_with (at_builtin; refine wpList_append_own _ rfl _ _ 27 rfl w.heap.size 5 i0 (.int .u8 0) 1 1 Tryz.underlying27 hi hz0 hz1 hz2 rfl (by decide) _ _ _ rfl hown ⟨wr.heap.size, 0, none⟩ 1 1 [.int .u8 0] rfl rfl (one_cells_at _ _ _ _ _ rfl) (by simp [Value.oneCell']) ?c3 ?c4 ?c5 ?_)
   case c3 => unfold maxLen; omega
   case c4 => omega
   case c5 => have := HR.out.kept.size; simp; omega
   intro v' w2 hown2 hgrow hnn
   have HR2 : Hid (Grow w w2 v' (m ++ 128 :: List.replicate (j + 1) 0)) := by
    have := HR.out.one (c := 0) rfl (by rw [hlj]; exact hown2) hgrow
    rw [List.append_assoc, List.cons_append, <-List.replicate_succ'] at this
    exact this
   obtain ⟨g2, c2, hv2, _⟩ := HR2.out.shape hnn
   have e : (m ++ 128 :: List.replicate (j + 1) (0 : UInt8)).length = n + 1 + (j + 1) := by rw [<-HN.out]; simp; omega
   rw [e] at hv2
   rw [hv2] at HR2 ⊢
   clear hown hown2 hgrow hnn HR hv2 htb
   go_wp2
   go_roundw
   case rel => exact ⟨j + 1, g2, c2, by omega, rfl, HR2⟩
   case measure => simp only [lenOfD]; omega
  ·have htm : ((n : Int) + 1 + (j : Int)).tmod 64 = 56 := by
    rw [Int.tmod_eq_emod_of_nonneg (by omega)]
    have := hiff.2 (by omega)
    omega
   clear hiff
   obtain rfl : j = z - 9 := by omega
   have htb : (((n : Int) + 1 + ((z - 9 : Nat) : Int)) % 64 != 56) = false := by
    rw [Int.tmod_eq_emod_of_nonneg (by omega)] at htm
    rw [htm]; rfl
   have HR0 : Hid (Grow w wr (.slice (some ⟨g, 0, none⟩) (n + 1 + (z - 9) + 0) c) (m ++ 128 :: List.replicate (z - 9) 0 ++ (Sha.be8 (8 * n)).take 0)) := by rw [List.take_zero, List.append_nil, Nat.add_zero]; exact HR.out
   obtain ⟨p, hp⟩ : ∃ p, p = z - 9 := ⟨_, rfl⟩
   obtain ⟨N, hN⟩ : ∃ N, N = 8 * n := ⟨_, rfl⟩
   have eN : 8 * (n : Int) = N := by omega
   rw [<-hN] at HE HR0
   rw [<-hp] at HE HR0 htm htb hlj ⊢
   have HPZ : Hid (p = z - 9) := hp
   have hp63 : p <= 63 := by omega
   have HNN : Hid (N = 8 * n) := hN
   clear HR hp hN hlt hj htm
   go_wp2
   go_loopw [3, 5] (fun v i wr => ∃ q g c : Nat, q <= 8 ∧ i = .int .i64 (7 - (q : Int)) ∧ v = .slice (some ⟨g, 0, none⟩) (n + 1 + p + q) c ∧ Hid (Grow w wr (.slice (some ⟨g, 0, none⟩) (n + 1 + p + q) c) (m ++ 128 :: List.replicate p 0 ++ (Sha.be8 N).take q))) (fun v i wr => (intOf i + 1).toNat)
   case atStart => exact ⟨0, g, c, by omega, rfl, rfl, HR0⟩
   case round =>
    clear HR0
    obtain ⟨q, g, c, hq, rfl, rfl, HR⟩ := hrel
    have hlq : (m ++ 128 :: List.replicate p (0 : UInt8) ++ (Sha.be8 N).take q).length = n + 1 + p + q := by rw [List.length_append, hlj, List.length_take, Sha.be8_len]; omega
    by_cases hlt : q < 8
    ·obtain ⟨i, hi7⟩ : ∃ i, i = 7 - q := ⟨_, rfl⟩
     have ei : (7 : Int) - (q : Int) = i := by omega
     have hib : i <= 7 := by omega
     have h0i : (0 : Int) <= (i : Int) := by omega
     have hN63 : N <= 9223372036854775807 := by have := HNN.out; omega
     rw [ei]
     have HI7 : Hid (i = 7 - q) := hi7
     clear ei hi7
     have hown := HR.out.own.alloc (.cells #[.int .u8 ((N : Int) / 2 ^ (8 * i) % 256)] 5)
     rw [hlq] at hown
     go_wp2_with (at_builtin; refine wpList_append_own _ rfl _ _ 27 rfl w.heap.size 5 i0 (.int .u8 0) 1 1 Tryz.underlying27 hi hz0 hz1 hz2 rfl (by decide) _ _ _ rfl hown ⟨wr.heap.size, 0, none⟩ 1 1 [.int .u8 ((N : Int) / 2 ^ (8 * i) % 256)] rfl rfl (one_cells_at _ _ _ _ _ rfl) (by simp [Value.oneCell']) ?c3 ?c4 ?c5 ?_)
     case c3 => unfold maxLen; omega
     case c4 => omega
     case c5 => have := HR.out.kept.size; simp; omega
     intro v' w2 hown2 hgrow hnn
     have HR2 : Hid (Grow w w2 v' (m ++ 128 :: List.replicate p 0 ++ (Sha.be8 N).take (q + 1))) := by
      have h2 := hown2
      rw [<-List.cons_append, <-List.append_assoc] at h2
      have := HR.out.one (c := UInt8.ofNat (N / 256 ^ (7 - q) % 256)) (n := (N : Int) / 2 ^ (8 * i) % 256) (by
       rw [u8_mod, <-HI7.out, show (2 : Int) ^ (8 * i) = ((256 ^ i : Nat) : Int) by rw [Int.natCast_pow, Int.pow_mul]; rfl]
       simp) (by rw [hlq]; exact h2) hgrow
      rw [List.append_assoc, <-be8_get N q hlt] at this
      exact this
     obtain ⟨g2, c2, hv2, _⟩ := HR2.out.shape hnn
     have e : (m ++ 128 :: List.replicate p (0 : UInt8) ++ (Sha.be8 N).take (q + 1)).length = n + 1 + p + (q + 1) := by rw [List.length_append, hlj, List.length_take, Sha.be8_len]; omega
     rw [e] at hv2
     rw [hv2] at HR2 ⊢
     clear hown hown2 hgrow hnn HR hv2
     go_wp2
     go_roundw
     case rel => exact ⟨q + 1, g2, c2, by omega, by have := HI7.out; congr 1 <;> omega, rfl, HR2⟩
     case measure => have := HI7.out; simp [intOf] <;> omega
    ·obtain rfl : q = 8 := by omega
     obtain ⟨g2, c2, hv2, hg2, hg3, hc2, hsl2⟩ := HR.out.shape (by intro h; cases h)
     rw [hlq] at hv2
     cases hv2
     have HB := Kept.below HR.out.kept (Nat.le_refl _) (by simp)
     have hzp : n + 1 + p + 8 = n + z := by have := HPZ.out; omega
     rw [hlq, hzp] at hc2
     rw [List.take_of_length_le (by rw [Sha.be8_len]; exact Nat.le_refl _), List.append_assoc, List.cons_append, <-HE.out] at hsl2
     have FIN : Hid (w.heap.size <= g ∧ g < wr.heap.size ∧ n + z <= c ∧ Sl wr (some ⟨g, 0, none⟩) (m ++ Sha.ending n) ∧ Below w.heap.size w wr) := ⟨hg2, hg3, hc2, hsl2, HB⟩
     rw [hzp]
     clear HR hg2 hg3 hc2 hsl2 HB hlq hlj hzp
     go_wp2
     go_ret
     exact ⟨g, c, rfl, FIN.out⟩
end

section
def laid1 (L : List Nat) : Nat -> List UInt8
 | 0 => List.replicate 32 0
 | i + 1 => (laid1 L i).set i ((Sha.four (L.getD (i / 4) 0)).getD (i % 4) 0)
theorem laid1_all (s : Sha.S8) : laid1 s.words 32 = Sha.bytes s := by kernel_rfl
theorem four_at (x k : Nat) (hk : k < 4) : (((Sha.four x).getD k 0).toNat : Int) = (x : Int) / 2 ^ (24 - 8 * k) % 256 := by
 rcases k with _ | _ | _ | _ | k
 ·show ((UInt8.ofNat (x / 16777216 % 256)).toNat : Int) = _
  rw [u8_mod]; simp
 ·show ((UInt8.ofNat (x / 65536 % 256)).toNat : Int) = _
  rw [u8_mod]; simp
 ·show ((UInt8.ofNat (x / 256 % 256)).toNat : Int) = _
  rw [u8_mod]; simp
 ·show ((UInt8.ofNat (x % 256)).toNat : Int) = _
  rw [u8_mod]; simp
 ·omega
structure RF (w wr : World) (r S K g : Nat) (L : List Nat) (R : List UInt8) : Prop where
 res : wr.heap[r]? = some (.cells zero32 22 (0, 0))
 sta : wr.heap[S]? = some (.cells (wds L).toArray 137 (0, 0))
 tab : wr.heap[K]? = some (.cells (wds Sha.table).toArray 139 (0, 0))
 sl : Sl wr (some ⟨g, 0, none⟩) R
 below : Below w.heap.size w wr
 ps : w.heap.size <= r ∧ r < S ∧ S < K ∧ S ≠ g
theorem RF.drewN {w wr : World} {r S K g : Nat} {L : List Nat} {R : List UInt8} (h : RF w wr r S K g L R) (n : Nat) : RF w (wr.drewN n) r S K g L R :=
 ⟨h.res, h.sta, h.tab, h.sl.drewN n, ⟨h.below.os, h.below.tape, h.below.output, h.below.size, h.below.block⟩, h.ps⟩
theorem RF.later {w wr w2 : World} {r S K g : Nat} {L : List Nat} {R : List UInt8} (h : RF w wr r S K g L R) (hb : Below wr.heap.size wr w2) : RF w w2 r S K g L R :=
 ⟨(hb.block r (gs h.res).1).trans h.res, (hb.block S (gs h.sta).1).trans h.sta, (hb.block K (gs h.tab).1).trans h.tab, h.sl.kept (Kept.of_below hb) (by simp), h.below.trans (hb.mono h.below.size), h.ps⟩
theorem RF.setS {w wr : World} {r S K g : Nat} {L : List Nat} {R : List UInt8} (h : RF w wr r S K g L R) (L' : List Nat) : RF w (wr.setRow S (wds L').toArray) r S K g L' R := by
 have := h.ps
 refine ⟨by rw [setRow_other _ _ _ _ (by omega)]; exact h.res, setRow_heap _ _ _ _ _ _ h.sta, by rw [setRow_other _ _ _ _ (by omega)]; exact h.tab, ?_, below_row h.below (by omega) _, h.ps⟩
 refine h.sl.kept (l := [S]) (kept_setRowD (Kept.refl _ _) (by simp) _) ?_
 rintro _ a ⟨⟩
 simp; omega
theorem row_range {w : World} {g : Nat} {cs : List Value} {t : TypeId} (h : w.heap[g]? = some (.cells cs.toArray t (0, 0))) : w.rangeAt g 0 cs := fun j v hv => by
 rw [cell_of_row _ _ _ _ _ _ h, Nat.zero_add, List.getElem?_toArray]; exact hv
theorem words_size (s : Sha.S8) : (wds s.words).toArray.size = 8 := by rw [List.size_toArray, wds_len]; rfl
theorem words_sizes (s q : Sha.S8) : (wds s.words).toArray.size = (wds q.words).toArray.size := (words_size s).trans (words_size q).symm
theorem Tryz.infoWords (s : Sha.S8) : (Tryz.prog.info? 137).map (·.size) = some (wds s.words).toArray.size := by rw [words_size]; exact Tryz.info8
theorem words_all (s : Sha.S8) : (wds s.words).toArray.all (·.oneCell') = true := Array.all_eq_true_iff_forall_mem.2 fun v hv => wds_oneCell _ v (by simpa using hv)
theorem Tryz.cut64 (W : World) (g L cap k : Nat) (hk : k + 64 <= L) (hc : L <= cap) :
  (Instr.slice 27 (.slice (some ⟨g, 0, none⟩) L cap) (some (.int .i64 k)) (some (.int .i64 ((k : Int) + 64))) none).run Tryz.prog W = .ok (.slice (some ⟨g, k, none⟩) 64 (cap - k)) W := by
 have hz : (sizeOf (Tryz.prog.elem 27)).run Tryz.prog W = .ok 1 W := by kernel_rfl
 have h := run_slice_lh (P := Tryz.prog) W 27 (some ⟨g, 0, none⟩) L cap (by kernel_rfl) .i64 .i64 k ((k : Int) + 64) (by omega) (by omega) (by omega)
 rw [h, hz]
 have e : ((k : Int) + 64).toNat = k + 64 := by omega
 simp [sliced, Addr.add_mid, show cap ≠ k by omega, e]
theorem rfull_of (ao : Option Addr) (cap : Nat) (m : List UInt8) (w : World) (n : Nat) (hn : m.length = n) (hlen : n <= 200000000000000)
  (hrow : ∀ w1, Below w.heap.size w w1 -> Calls Tryz.prog 82 #[.slice ao n cap] w1 fun e w' => ∃ g c, e = .returned (.slice (some ⟨g, 0, none⟩) (n + Sha.size n) c) ∧ w1.heap.size <= g ∧ g < w'.heap.size ∧ n + Sha.size n <= c ∧ Sl w' (some ⟨g, 0, none⟩) (m ++ Sha.ending n) ∧ Below w1.heap.size w1 w') :
  Calls Tryz.prog 40 #[.slice ao n cap] w fun e w' => e = .returned (.agg (bys (Sha.full m)).toArray) ∧ Below w.heap.size w w' := by
 have hz := Tryz.zeroB32
 have hz8 := Tryz.zeroW8
 have hz64 := Tryz.zeroW64
 have HROW := (show Hid (∀ _, _) from hrow)
 have HFU : Hid (Sha.full m = Sha.bytes (Sha.st (m ++ Sha.ending n) ((n + Sha.size n) / 64))) := by rw [<-hn]; rfl
 clear hrow
 obtain ⟨r, hr⟩ : ∃ r, r = w.heap.size := ⟨_, rfl⟩
 have hr0 : (w.alloc (.cells zero32 22)).heap[w.heap.size]? = some (.cells zero32 22 (0, 0)) := heap_alloc_new _ _
 have hB0 : Below w.heap.size w (w.alloc (.cells zero32 22)) := (Below.refl _ _).alloc (Nat.le_refl _) _
 go_enter Tryz.func40, Tryz.ntmps40
 go_wp2_with (fail)
 rw [<-hr] at hr0 ⊢
 have HRr : Hid (r = w.heap.size) := hr
 clear hr
 generalize w.alloc _ = w0 at hr0 hB0 ⊢
 refine (rfirst_ok _).mono ?_
 rintro e w1 ⟨rfl, hb1⟩
 have hr1 := (hb1.block r (gs hr0).1).trans hr0
 have hB1 := hB0.trans (hb1.mono hB0.size)
 clear hr0 hB0 hb1
 have hS1 : (w1.alloc (.cells zero8 137)).heap[w1.heap.size]? = some (.cells zero8 137 (0, 0)) := heap_alloc_new _ _
 go_wp2_with (refine wpList_store_rowTo rfl 137 (.tmp 3) (.tmp 9) rfl rfl w1.heap.size (wds Sha.first.words).toArray rfl rfl 137 zero8 hS1 Tryz.info8 (by kernel_rfl) (by kernel_rfl) ?_)
 obtain ⟨S, hS⟩ : ∃ S, S = w1.heap.size := ⟨_, rfl⟩
 have hS2 : ((w1.alloc (.cells zero8 137)).setRow w1.heap.size (wds Sha.first.words).toArray).heap[S]? = some (.cells (wds Sha.first.words).toArray 137 (0, 0)) := by rw [hS]; exact setRow_heap _ _ _ _ _ _ hS1
 have hrl : r < w1.heap.size := (gs hr1).1
 have hr2 : ((w1.alloc (.cells zero8 137)).setRow w1.heap.size (wds Sha.first.words).toArray).heap[r]? = some (.cells zero32 22 (0, 0)) := by rw [setRow_other _ _ _ _ (by omega), heap_alloc_old w1 _ hrl]; exact hr1
 have hB2 : Below w.heap.size w ((w1.alloc (.cells zero8 137)).setRow w1.heap.size (wds Sha.first.words).toArray) := below_row (hB1.alloc hB1.size _) hB1.size _
 clear hS1 hr1 hB1
 generalize World.setRow _ _ _ = w2 at hS2 hr2 hB2 ⊢
 rw [<-hS]
 have HPS : Hid (r < S) := by rw [hS]; exact hrl
 clear hS hrl
 refine (rtable_ok _).mono ?_
 rintro e w3 ⟨rfl, hb3⟩
 have hr3 := (hb3.block r (gs hr2).1).trans hr2
 have hS3 := (hb3.block S (gs hS2).1).trans hS2
 have hB3 := hB2.trans (hb3.mono hB2.size)
 clear hr2 hS2 hB2 hb3
 have hK3 : (w3.alloc (.cells zero64 139)).heap[w3.heap.size]? = some (.cells zero64 139 (0, 0)) := heap_alloc_new _ _
 go_wp2_with (refine wpList_store_rowTo rfl 139 (.tmp 4) (.tmp 10) rfl rfl w3.heap.size (wds Sha.table).toArray rfl rfl 139 zero64 hK3 Tryz.info64 (by kernel_rfl) (by kernel_rfl) ?_)
 obtain ⟨K, hK⟩ : ∃ S, S = w3.heap.size := ⟨_, rfl⟩
 have hK4 : ((w3.alloc (.cells zero64 139)).setRow w3.heap.size (wds Sha.table).toArray).heap[K]? = some (.cells (wds Sha.table).toArray 139 (0, 0)) := by rw [hK]; exact setRow_heap _ _ _ _ _ _ hK3
 have hrl : r < w3.heap.size := (gs hr3).1
 have hSl : S < w3.heap.size := (gs hS3).1
 have hr4 : ((w3.alloc (.cells zero64 139)).setRow w3.heap.size (wds Sha.table).toArray).heap[r]? = some (.cells zero32 22 (0, 0)) := by rw [setRow_other _ _ _ _ (by omega), heap_alloc_old w3 _ hrl]; exact hr3
 have hS4 : ((w3.alloc (.cells zero64 139)).setRow w3.heap.size (wds Sha.table).toArray).heap[S]? = some (.cells (wds Sha.first.words).toArray 137 (0, 0)) := by rw [setRow_other _ _ _ _ (by omega), heap_alloc_old w3 _ hSl]; exact hS3
 have hB4 : Below w.heap.size w ((w3.alloc (.cells zero64 139)).setRow w3.heap.size (wds Sha.table).toArray) := below_row (hB3.alloc hB3.size _) hB3.size _
 clear hK3 hr3 hS3 hB3
 generalize World.setRow _ _ _ = w4 at hK4 hr4 hS4 hB4 ⊢
 rw [<-hK]
 have HPK : Hid (S < K) := by rw [hK]; exact hSl
 clear hK hrl hSl
 refine (HROW.out w4 hB4).mono ?_
 rintro e w5 ⟨g, c, rfl, hg4, hg5, hc5, hsl5, hb5⟩
 have HF : Hid (RF w w5 r S K g (Sha.st (m ++ Sha.ending n) 0).words (m ++ Sha.ending n)) := by
  have h1 := HPS.out; have h2 := HPK.out; have h3 := HRr.out
  have h4 := (gs hS4).1
  exact ⟨(hb5.block r (gs hr4).1).trans hr4, (hb5.block S h4).trans hS4, (hb5.block K (gs hK4).1).trans hK4, hsl5, hB4.trans (hb5.mono hB4.size), by omega⟩
 have hsz := Sha.size_ge n
 have HRL : Hid ((m ++ Sha.ending n).length = n + Sha.size n) := by show _ = _; rw [List.length_append, hn, Sha.ending_len]
 clear HROW hr4 hS4 hB4 hK4 hg4 hg5 hsl5 hb5 hz8 hz64
 generalize m ++ Sha.ending n = R at HF HRL HFU
 generalize Sha.size n = z at hsz hc5 HRL HFU ⊢
 obtain ⟨T, hT⟩ := nm (n + z)
 have hT63 : T <= 9223372036854775000 := by omega
 have HT : Hid (T % 64 = 0) := by show _ = _; omega
 rw [hT] at hc5 HRL HFU ⊢
 clear hsz hT
 go_wp2
 go_loopw [6] (fun x wr => ∃ k : Nat, 64 * k <= T ∧ x = .int .i64 (64 * k : Nat) ∧ Hid (RF w wr r S K g (Sha.st R k).words R)) (fun x wr => T - (intOf x).toNat)
 case atStart => exact ⟨0, by omega, rfl, HF⟩
 case round =>
  clear HF
  obtain ⟨k, hk, rfl, HR⟩ := hrel
  obtain ⟨at_, hat⟩ : ∃ a, a = 64 * k := ⟨_, rfl⟩
  rw [<-hat] at hk ⊢
  by_cases hlt : at_ < T
  ·have hfit : at_ + 64 <= T := by have := HT.out; omega
   have hcut := fun W => Tryz.cut64 W g T c at_ hfit hc5
   have hq := Sha.st_ok R k
   have HQ : Hid (Sha.st R (k + 1) = Sha.turn (Sha.st R k) ((R.drop at_).take 64)) := by show _ = _; rw [hat, Sha.st]
   have hbl : ((R.drop at_).take 64).length = 64 := by rw [List.length_take, List.length_drop, HRL.out]; omega
   obtain ⟨gg, off, hgo, hgl, hcells⟩ := HR.out.sl.open (by intro e; have := HRL.out; rw [e] at this; simp at this; omega)
   cases hgo
   have HCB : Hid (∀ i, i < 64 -> wr.cell? ⟨g, at_ + i, none⟩ = some (.int .u8 (((R.drop at_).take 64).getD i 0).toNat)) := fun i hi => by
    have := hcells (at_ + i) (by rw [HRL.out]; omega)
    rw [Nat.zero_add] at this
    rw [this]
    simp [hi]
   generalize (R.drop at_).take 64 = bs at hbl HQ HCB
   have hrs := row_range HR.out.sta
   have hrk := row_range HR.out.tab
   generalize Sha.st R k = q at hq HQ HR hrs
   have HRR : Hid (wr.rangeAt S 0 (wds q.words) ∧ wr.rangeAt K 0 (wds Sha.table)) := ⟨hrs, hrk⟩
   have HAT : Hid (at_ = 64 * k) := hat
   clear hrs hrk hcells hat
   have hw64 : IntKind.i64.wrap ((at_ : Int) + 64) = (at_ : Int) + 64 := by rw [IntWalk.i64_in _ (by omega)]
   go_wp2
   refine wp_region_still_tail 7 Tryz.followsD (by kernel_rfl) ?_
   simp only [List.take_succ_cons, List.take_zero, List.drop_succ_cons, List.drop_zero]
   (refine wpStill_step (fun K hK => ?_); rw [if_pos (by rfl)]; refine still_load_mid 137 (.tmp 3) rfl S 0 rfl (wds q.words) _ HRR.out.1 Tryz.underlying137 rfl Tryz.info8 ?_; refine hK _ ?_; clear hK K; simp only [z4, z5, z6, z7, z8])
   repeat still_step
   (refine wpStill_step (fun K hK => ?_); rw [if_pos (by rfl)]; refine still_load_mid 139 (.tmp 4) rfl _ 0 rfl (wds Sha.table) _ HRR.out.2 Tryz.underlying139 rfl Tryz.info64 ?_; refine hK _ ?_; clear hK K; simp only [z4, z5, z6, z7, z8])
   refine wpStill_nil ?_
   rw [World.drew_eq]
   have HR2 : Hid (RF w wr.drew r S K g q.words R) := HR.out.drewN 1
   have HCB2 : Hid (∀ i, i < 64 -> wr.drew.cell? ⟨g, at_ + i, none⟩ = some (.int .u8 (bs.getD i 0).toNat)) := HCB.out
   have hgl2 : g < wr.drew.heap.size := hgl
   clear HR HRR HCB hgl hcut
   generalize wr.drew = w6 at HR2 HCB2 hgl2 ⊢
   go_wp2_with (fail)
   refine (rturn_ok q hq g at_ (c - at_) bs w6 hbl hgl2 HCB2.out).mono ?_
   rintro e w7 ⟨rfl, hb7⟩
   have HR3 : Hid (RF w w7 r S K g q.words R) := HR2.out.later hb7
   have hs3 := HR3.out.sta
   have HS : Hid (RF w (w7.setRow S (wds (Sha.turn q bs).words).toArray) r S K g (Sha.st R (k + 1)).words R) := by
    rw [HQ.out]; exact HR3.out.setS _
   clear HR2 HCB2 hb7 HR3 HQ
   generalize Sha.turn q bs = q2 at HS ⊢
   go_wp2_with (refine wpList_store_rowTo rfl 137 (.tmp 3) (.tmp 26) rfl rfl S (wds q2.words).toArray rfl rfl 137 _ hs3 (Tryz.infoWords q2) (words_sizes q q2) (words_all q2) ?_)
   go_roundw
   case rel => first | exact ⟨k + 1, by have := HAT.out; omega, by have := HAT.out; congr 1; omega, HS⟩ | ((repeat apply Exists.intro); exact ⟨⟨k + 1, by have := HAT.out; omega, by have := HAT.out; congr 1; omega, HS⟩, rfl⟩)
   case measure => simp [intOf]; omega
  ·have hkT : k = T / 64 := by have := HT.out; omega
   have hq := Sha.st_ok R k
   have HFB : Hid (Sha.bytes (Sha.st R k) = Sha.full m) := by show _ = _; rw [HFU.out, hkT]
   generalize Sha.st R k = q at hq HFB HR
   clear HFU hkT hat
   obtain ⟨B, hB⟩ : ∃ B, B = wr.heap.size := ⟨_, rfl⟩
   have hbb : (wr.alloc (.cells zero32 22)).heap[wr.heap.size]? = some (.cells zero32 22 (0, 0)) := heap_alloc_new _ _
   have hrl : r < wr.heap.size := (gs HR.out.res).1
   have HF : Hid (Fill32 w (wr.alloc (.cells zero32 22)) 22 r B (laid1 q.words 0)) := by
    have := HR.out.ps
    have := HR.out.below.size
    refine ⟨by rw [heap_alloc_old wr _ hrl]; exact HR.out.res, by rw [hB]; exact hbb, rfl, HR.out.below.alloc HR.out.below.size _, by omega⟩
   have HC : Hid (∀ i, i < 8 -> (wr.alloc (.cells zero32 22)).cell? ⟨S, i, none⟩ = some (.int .u32 (q.words.getD i 0 : Nat))) := fun i hi => by
    rw [cell_of_row _ _ _ _ _ _ ((heap_alloc_old wr _ (gs HR.out.sta).1).trans HR.out.sta), List.getElem?_toArray, wds_at (by exact hi)]
   have HSB : Hid (S < B) := by rw [hB]; exact (gs HR.out.sta).1
   clear HR hbb hrl
   go_wp2
   rw [<-hB]
   clear hB hz
   generalize wr.alloc _ = w8 at HF HC ⊢
   go_loopw [8] (fun x wr => ∃ i : Nat, i <= 32 ∧ x = .int .i64 i ∧ Hid (Fill32 w wr 22 r B (laid1 q.words i)) ∧ Hid (∀ i, i < 8 -> wr.cell? ⟨S, i, none⟩ = some (.int .u32 (q.words.getD i 0 : Nat)))) (fun x wr => 32 - (intOf x).toNat)
   case atStart => exact ⟨0, by omega, rfl, HF, HC⟩
   case round =>
    clear HF HC
    obtain ⟨i, hi, rfl, HF, HC⟩ := hrel
    by_cases hlt2 : i < 32
    ·obtain ⟨d, hd⟩ : ∃ d, d = i / 4 := ⟨_, rfl⟩
     obtain ⟨e, he⟩ : ∃ d, d = i % 4 := ⟨_, rfl⟩
     obtain ⟨sh, hsh⟩ : ∃ d, d = 24 - 8 * e := ⟨_, rfl⟩
     have ed : (i : Int) / 4 = d := by omega
     have ee : (i : Int) % 4 = e := by omega
     have es : (24 : Int) - 8 * (e : Int) = sh := by omega
     have ld : (d : Int) < 8 := by omega
     have li : (i : Int) < 32 := by omega
     have ls : sh <= 24 := by omega
     have cs := HC.out d (by omega)
     have ci := HF.out.cell i hlt2
     have fi := HF.out.frozen i
     have hxl := words_ok hq d
     have h4 := four_at (q.words.getD d 0) e (by omega)
     rw [<-hsh] at h4
     have HS : Hid (Fill32 w (wr.setCell ⟨B, i, none⟩ (.int .u8 ((q.words.getD d 0 : Int) / 2 ^ sh % 256))) 22 r B (laid1 q.words (i + 1))) := by
      have := HF.out.set i ((Sha.four (q.words.getD d 0)).getD e 0)
      rw [h4] at this
      rw [hd, he] at this
      rw [hd]
      exact this
     have HC2 : ∀ v, Hid (∀ j, j < 8 -> (wr.setCell ⟨B, i, none⟩ v).cell? ⟨S, j, none⟩ = some (.int .u32 (q.words.getD j 0 : Nat))) := fun v j hj => by
      rw [World.cell?_setCell_other _ _ _ _ (by intro e; injection e with e1; have := HSB.out; omega)]
      exact HC.out j hj
     clear h4 HF HC hd he hsh
     generalize (laid1 q.words i).getD i 0 = old at ci
     generalize q.words.getD d 0 = x at cs hxl HS
     go_wp2
     go_roundw
     case rel => exact ⟨i + 1, by omega, by go_num, HS, HC2 _⟩
     case measure => simp [intOf]; omega
    ·obtain rfl : i = 32 := by omega
     have h1 := HF.out.arr
     have h2 := HF.out.res
     have hlen : (bys (laid1 q.words 32)).toArray.size = 32 := by simp [bys_length, HF.out.len]
     have hinf : (Tryz.prog.info? 22).map (·.size) = some (bys (laid1 q.words 32)).toArray.size := by rw [hlen]; exact Tryz.info32
     have hz0 : zero32.size = (bys (laid1 q.words 32)).toArray.size := by rw [hlen]; rfl
     have hone := bys_all (laid1 q.words 32)
     have HFIN : Hid (laid1 q.words 32 = Sha.full m) := (laid1_all q).trans HFB.out
     generalize laid1 q.words 32 = F at h1 hlen hinf hone hz0 HFIN HF
     go_wp2_with (first | refine wpList_load_row rfl 22 (.tmp 7) rfl B rfl 22 _ (0, 0) _ h1 Tryz.underlying22 rfl hinf ?_ | refine wpList_store_rowTo rfl 22 (.tmp 2) (.tmp 43) rfl rfl r (bys F).toArray rfl rfl 22 zero32 h2 hinf hz0 hone ?_)
     exact ret_row rfl rfl r 22 _ (0, 0) _ rfl (setRow_heap _ _ _ _ _ _ h2) Tryz.underlying22 rfl hinf ⟨by rw [HFIN.out], below_row HF.out.below HF.out.ps.1 _⟩
end

section
theorem rfull_any (ao : Option Addr) (cap : Nat) (m : List UInt8) (w : World) (n : Nat) (hn : m.length = n) (hlen : n <= 140737488351232) (hs : Sl w ao m) (hnl : ao = none -> m = [] ∧ cap = 0) :
  Calls Tryz.prog 40 #[.slice ao n cap] w fun e w' => e = .returned (.agg (bys (Sha.full m)).toArray) ∧ Below w.heap.size w w' :=
 rfull_of ao cap m w n hn (by omega) fun w1 hb => row_any ao cap m w1 (hs.kept (Kept.of_below hb) (by simp)) hnl (by omega) n hn
def idl (F : List UInt8) : Nat -> List UInt8
 | 0 => List.replicate 32 0
 | i + 1 => (idl F i).set i (F.getD i 0)
theorem idl_eq (F : List UInt8) (hF : F.length = 32) : ∀ i, i <= 32 -> idl F i = F.take i ++ List.replicate (32 - i) 0
 | 0, _ => by simp [idl]
 | i + 1, h => by
  rw [idl, idl_eq F hF i (by omega), List.set_append_right _ _ (by simp; omega), List.length_take, Nat.min_eq_left (by omega), Nat.sub_self]
  obtain ⟨j, hj⟩ : ∃ j, 32 - i = j + 1 := ⟨31 - i, by omega⟩
  rw [hj, List.replicate_succ, List.set_cons_zero, show 32 - (i + 1) = j by omega, List.take_succ_eq_append_getElem (by omega), List.append_assoc]
  simp [List.getElem?_eq_getElem (show i < F.length by omega)]
end

section
open Dlt
theorem idl_pad (F : List UInt8) : ∀ i, i <= 32 -> i <= F.length -> idl F i = F.take i ++ List.replicate (32 - i) 0
 | 0, _, _ => by simp [idl]
 | i + 1, h, hF => by
  rw [idl, idl_pad F i (by omega) (by omega), List.set_append_right _ _ (by simp; omega), List.length_take, Nat.min_eq_left (by omega), Nat.sub_self]
  obtain ⟨j, hj⟩ : ∃ j, 32 - i = j + 1 := ⟨31 - i, by omega⟩
  rw [hj, List.replicate_succ, List.set_cons_zero, show 32 - (i + 1) = j by omega, List.take_succ_eq_append_getElem (by omega), List.append_assoc]
  simp [List.getElem?_eq_getElem (show i < F.length by omega)]
theorem idl_min (F : List UInt8) : idl F (min F.length 32) = pad F := by
 rw [idl_pad F _ (by omega) (by omega)]
 unfold pad
 by_cases h : F.length <= 32
 ·rw [Nat.min_eq_left h, List.take_of_length_le (Nat.le_refl _), List.take_of_length_le h]
 ·rw [Nat.min_eq_right (by omega), Nat.sub_self, show 32 - F.length = 0 by omega]
theorem rwhole_ok (ao : Option Addr) (n cap : Nat) (xs : List UInt8) (w : World) (hn : xs.length = n) (hm : n <= 4611686018427387904) (hs : Sl w ao xs) :
  Calls Tryz.prog 36 #[.slice ao n cap] w fun e w' => e = .returned (.agg (bys (pad xs)).toArray) ∧ Kept [] w w' := by
 have hz := Tryz.zeroID
 obtain ⟨r, hr⟩ : ∃ r, r = w.heap.size := ⟨_, rfl⟩
 obtain ⟨g, hg⟩ : ∃ r, r = w.heap.size + 1 := ⟨_, rfl⟩
 have hg1 : ((w.alloc (.cells zero32 23)).alloc (.cells zero32 23)).heap[w.heap.size + 1]? = some (.cells zero32 23 (0, 0)) := heap_alloc2_new _ _ _
 have hr1 : ((w.alloc (.cells zero32 23)).alloc (.cells zero32 23)).heap[w.heap.size]? = some (.cells zero32 23 (0, 0)) := heap_alloc2_old _ _ _
 have hB1 : Below w.heap.size w ((w.alloc (.cells zero32 23)).alloc (.cells zero32 23)) := ((Below.refl _ _).alloc (Nat.le_refl _) _).alloc (by simp) _
 have HI : Hid (Fill32 w ((w.alloc (.cells zero32 23)).alloc (.cells zero32 23)) 23 r g (idl xs 0)) := by
  refine ⟨by rw [hr]; exact hr1, by rw [hg]; exact hg1, by simp [idl], hB1, by omega⟩
 have HS := hide hs
 have HX := hide hn
 clear hg1 hr1 hB1 hs hn
 go_enter Tryz.func36, Tryz.ntmps36
 go_upto_region 2 with (fail)
 generalize (w.alloc (.cells zero32 23)).alloc (.cells zero32 23) = w1 at HI ⊢
 rw [<-hg, <-hr]
 clear hr hg hz
 go_wp2
 go_loopw [4] (fun x wr => ∃ i : Nat, i <= n ∧ i <= 32 ∧ x = .int .i64 i ∧ Hid (Fill32 w wr 23 r g (idl xs i))) (fun x wr => 32 - (intOf x).toNat)
 case atStart => exact ⟨0, by omega, by omega, rfl, HI⟩
 case round =>
  clear HI
  obtain ⟨i, hi, hi32, rfl, HI⟩ := hrel
  have FIN : i = min xs.length 32 -> Hid (idl xs i = pad xs) := fun h => by rw [h]; exact idl_min xs
  have FEND : i = min xs.length 32 -> Hid (∀ (a : Act), a.defers = [] -> a.tmps.getD 2 undef = .pointer (some ⟨r, 0, none⟩) -> bodyPost Tryz.prog Tryz.f36 (fun e w' => e = .returned (.agg (bys (pad xs)).toArray) ∧ Kept [] w w') .ret a (wr.setRow r (bys (idl xs i)).toArray)) := fun hm a hd hp => by
   have hinf : (Tryz.prog.info? 23).map (·.size) = some (bys (idl xs i)).toArray.size := by rw [show (bys (idl xs i)).toArray.size = 32 by simp [bys_length, HI.out.len]]; exact Tryz.infoID
   exact ret_row rfl hd r 23 _ (0, 0) _ hp (setRow_heap _ _ _ _ _ _ HI.out.res) Tryz.underlying23 rfl hinf ⟨by rw [(FIN hm).out], Kept.of_below (below_row HI.out.below HI.out.ps.1 _)⟩
  by_cases hlt : i < n
  ·by_cases hl2 : i < 32
   ·have hne : xs ≠ [] := by rintro rfl; have := HX.out; simp at this; omega
    obtain ⟨b, off, rfl, hbl, hcell⟩ := HS.out.open hne
    have cf : wr.cell? ⟨b, off + i, none⟩ = some (.int .u8 (xs.getD i 0).toNat) := by
     have hk : Kept [] w wr := Kept.of_below HI.out.below
     exact hk.cellOf (hcell i (by rw [HX.out]; exact hlt)) (by simp)
    have ci := HI.out.cell i hl2
    have fi := HI.out.frozen i
    have HS2 : Hid (Fill32 w (wr.setCell ⟨g, i, none⟩ (.int .u8 (xs.getD i 0).toNat)) 23 r g (idl xs (i + 1))) := HI.out.set i _
    clear HI hne hbl hcell FIN FEND
    generalize (idl xs i).getD i 0 = old at ci
    generalize xs.getD i 0 = x at cf HS2
    go_wp2
    go_roundw
    case rel => exact ⟨i + 1, by omega, by omega, by go_num, HS2⟩
    case measure => simp [intOf]; omega
   ·have hm2 := FEND (by rw [HX.out]; omega)
    have h1 := HI.out.arr
    have h2 := HI.out.res
    have hlen : (bys (idl xs i)).toArray.size = 32 := by simp [bys_length, HI.out.len]
    have hinf : (Tryz.prog.info? 23).map (·.size) = some (bys (idl xs i)).toArray.size := by rw [hlen]; exact Tryz.infoID
    have hz0 : zero32.size = (bys (idl xs i)).toArray.size := by rw [hlen]; rfl
    have hone := bys_all (idl xs i)
    clear FIN FEND HI hlen
    generalize idl xs i = I at h1 hinf hone hz0 hm2
    go_wp2_with (first | refine wpList_load_row rfl 23 (.tmp 3) rfl g rfl 23 _ (0, 0) _ h1 Tryz.underlying23 rfl hinf ?_ | refine wpList_store_rowTo rfl 23 (.tmp 2) (.tmp 21) rfl rfl r (bys I).toArray rfl rfl 23 zero32 h2 hinf hz0 hone ?_)
    exact hm2.out _ rfl rfl
  ·obtain rfl : i = n := by omega
   have hm2 := FEND (by rw [HX.out]; omega)
   have h1 := HI.out.arr
   have h2 := HI.out.res
   have hlen : (bys (idl xs i)).toArray.size = 32 := by simp [bys_length, HI.out.len]
   have hinf : (Tryz.prog.info? 23).map (·.size) = some (bys (idl xs i)).toArray.size := by rw [hlen]; exact Tryz.infoID
   have hz0 : zero32.size = (bys (idl xs i)).toArray.size := by rw [hlen]; rfl
   have hone := bys_all (idl xs i)
   clear FIN FEND HI hlen
   generalize idl xs i = I at h1 hinf hone hz0 hm2
   go_wp2_with (first | refine wpList_load_row rfl 23 (.tmp 3) rfl g rfl 23 _ (0, 0) _ h1 Tryz.underlying23 rfl hinf ?_ | refine wpList_store_rowTo rfl 23 (.tmp 2) (.tmp 21) rfl rfl r (bys I).toArray rfl rfl 23 zero32 h2 hinf hz0 hone ?_)
   exact hm2.out _ rfl rfl
end

section
open Dlt
theorem Rf.new {w : World} {ao : Option Addr} {n cap : Nat} {xs : List UInt8} (h : Sl w ao xs) (hn : xs.length = n) (hc : n <= cap) (hm : n <= 140737488355328) : Rf (w.alloc (.cells #[.slice ao n cap, .int .i64 0, .int .i64 0, .int .i64 0] 79)) w.heap.size ao cap xs 0 0 0 := by
 subst hn
 have hr := heap_new w (.cells #[.slice ao xs.length cap, .int .i64 0, .int .i64 0, .int .i64 0] 79)
 have hf := fun i => frozen_of_row (w.alloc (.cells #[.slice ao xs.length cap, .int .i64 0, .int .i64 0, .int .i64 0] 79)) w.heap.size i _ _ hr
 refine ⟨?_, ?_, ?_, ?_, hf 1, hf 2, hf 3, Nat.zero_le _, hc, hm, h.kept ((Kept.refl [] w).alloc _) (by simp), fun hne a ha => ?_⟩
 ·rw [cell_of_row _ _ _ _ _ _ hr]; rfl
 ·rw [cell_of_row _ _ _ _ _ _ hr]; rfl
 ·rw [cell_of_row _ _ _ _ _ _ hr]; rfl
 ·rw [cell_of_row _ _ _ _ _ _ hr]; rfl
 ·obtain ⟨b, off, e, hb, _⟩ := h.open hne
  rw [e] at ha
  injection ha with ha
  subst ha
  show b ≠ _
  omega
theorem Tryz.builtR (ao : Option Addr) (n c : Nat) (W : World) : (Instr.build 79 #[(0, .slice ao n c)]).run Tryz.prog W = .ok (.agg #[.slice ao n c, .int .i64 0, .int .i64 0, .int .i64 0]) W := by kernel_rfl
theorem ropened_long (ao : Option Addr) (n cap : Nat) (w : World) (h4 : n < 4 ∨ 131072 < n) :
  Calls Tryz.prog 32 #[.slice ao n cap] w fun e w' => (∃ v, e = .returned (.tuple #[v, .bool false])) ∧ Kept [] w w' := by
 by_cases h1 : n < 4
 ·clear h4
  go_enter Tryz.func32, Tryz.ntmps32
  go_wp2
  go_ret2
  exact ⟨⟨_, rfl⟩, Kept.refl _ _⟩
 ·have h2 : 131072 < n := by omega
  clear h4
  go_enter Tryz.func32, Tryz.ntmps32
  go_wp2
  go_ret2
  exact ⟨⟨_, rfl⟩, Kept.refl _ _⟩
theorem ropened_in (ao : Option Addr) (n cap m : Nat) (xs : List UInt8) (w : World) (h : InB8 w ao n cap xs) (hnm : n = m + 4) (hl : n <= 131072) (c : Bool) (hq : c = decide (Pure.be (xs.drop m) = Pure.sum (xs.take m))) :
  Calls Tryz.prog 32 #[.slice ao n cap] w fun e w' => e = .returned (.tuple #[.slice ao m cap, .bool c]) ∧ Kept [] w w' := by
 have h1 : ¬ n < 4 := by omega
 have h2 : ¬ 131072 < n := by omega
 have hle := h.le
 have hne : xs ≠ [] := by rintro rfl; have := h.len; simp at this; omega
 obtain ⟨b0, off, rfl, hb0, hcell⟩ := h.sl.open hne
 have e4 : n - m = 4 := by omega
 have hmc : ¬ cap < m := by omega
 have hmn : ¬ n < m := by omega
 have hce : ¬ cap = m := by omega
 have hsd : Sl w (some ⟨b0, off + m, none⟩) (xs.drop m) := by
  have h0 := h.sl.cut m 4 (by rw [h.len]; omega)
  rwa [List.take_of_length_le (by rw [List.length_drop, h.len]; omega)] at h0
 have hw4 : IntKind.i64.wrap ((n : Int) - 4) = (m : Int) := by rw [wrap64 (by omega) (by omega)]; omega
 have hcy := fun W => Tryz.cutBy W (some ⟨b0, off, none⟩) n cap m (by omega)
 have hbR := Tryz.builtR (some ⟨b0, off + m, none⟩) 4 (cap - m)
 have hd4 : (xs.drop m).length = 4 := by rw [List.length_drop, h.len]; omega
 have hrf0 := Rf.new hsd hd4 (by omega : 4 <= cap - m) (by omega)
 have hK := ka w (.cells #[.slice (some ⟨b0, off + m, none⟩) 4 (cap - m), .int .i64 0, .int .i64 0, .int .i64 0] 79)
 have HSL := hide h.sl
 have HLN := hide h.len
 obtain ⟨g, hg⟩ := nm (w.heap.size)
 rw [hg] at hrf0
 have HGW := hide hg
 clear h hd4 hsd hcell hne
 go_enter Tryz.func32, Tryz.ntmps32
 go_upto_region 5 with (refine wpList_buildRun8 rfl 79 #[(0, .tmp 19)] rfl #[(0, .slice (some ⟨b0, off + m, none⟩) 4 (cap - m))] (by simp [Act.eval]) _ (hbR _) ?_)
 clear hbR hg
 generalize w.alloc (.cells #[.slice (some ⟨b0, off + m, none⟩) 4 (cap - m), .int .i64 0, .int .i64 0, .int .i64 0] 79) = w1 at hrf0 hK ⊢
 have hrf : Rf (World.drew w1) g (some ⟨b0, off + m, none⟩) (cap - m) (xs.drop m) 0 0 0 := hrf0.drewN 1
 obtain ⟨x, hx⟩ : ∃ x : Nat, Pure.be (xs.drop m) = x := ⟨_, rfl⟩
 obtain ⟨y, hy⟩ : ∃ y : Nat, Pure.sum (xs.take m) = y := ⟨_, rfl⟩
 have HTF : Hid (∀ W, Rf W g (some ⟨b0, off + m, none⟩) (cap - m) (xs.drop m) 0 0 0 -> Calls Tryz.prog 33 #[.pointer (some ⟨g, 0, none⟩), .int .i64 4] W fun e w' => e = .returned (.int .i64 (x : Nat)) ∧ Kept [g] W w') := fun W hW => by
  have hd4 : (xs.drop m).length = 4 := by rw [List.length_drop, HLN.out]; omega
  refine (takefix_ok hW 4 (by omega) (by omega) (by omega)).mono fun e w' hh => ⟨?_, hh.2.1⟩
  rw [hh.1, List.drop_zero, List.take_of_length_le (by omega), hx]
 have HSU : Hid (∀ W, Kept [g] w1 W -> Calls Tryz.prog 76 #[.slice (some ⟨b0, off, none⟩) m cap] W fun e w' => e = .returned (.int .i64 (y : Nat)) ∧ Kept [] W w') := fun W hW => by
  have hs : Sl W (some ⟨b0, off, none⟩) (xs.take m) := by
   have h0 : Sl W (some ⟨b0, off, none⟩) xs := (HSL.out.kept hK (by simp)).kept hW (fun hne a ha => by
    obtain ⟨b, off, e, hb, _⟩ := HSL.out.open hne
    rw [e] at ha; injection ha with ha; subst ha
    have := HGW.out
    simp; omega)
   exact h0.take m
  refine (rcrc_n (some ⟨b0, off, none⟩) m cap (xs.take m) W (by rw [List.length_take, HLN.out]; omega) (by omega) hs).mono fun e w' hh => ⟨by rw [hh.1, hy], by rw [hh.2]; exact Kept.refl _ _⟩
 have HFK : Hid (∀ W, Kept [g] w1 W -> Kept [] w W) := fun W hW => hK.trans hW (fun i hi hl => by simp only [List.mem_singleton] at hi; have := HGW.out; omega)
 rw [hx, hy] at hq
 have HEQ : ((x : Int) == (y : Int)) = c := by rw [hq, Bool.eq_iff_iff]; simp; omega
 clear hrf0 hx hy hq hK HLN HSL HGW
 refine wp_region_held_drew (S := fun w' => Kept [g] w1 w') (by kernel_rfl) ((Kept.refl [g] w1).drew) (fun h0 => ?_)
 generalize World.drew w1 = v0 at h0 hrf ⊢
 refine t1 0 (.slice (some ⟨b0, off, none⟩) n cap) h0 ?_
 simp only [zz]
 refine t1 1 (.int .i64 m) h0 ?_
 simp only [zz]
 refine t2 2 (.slice (some ⟨b0, off, none⟩) m cap) rfl h0 ?_ (fun w hSw => by have c0 := hcy w; go_simp)
 simp only [zz]
 refine t1 3 (.pointer (some ⟨g, 0, none⟩)) h0 ?_
 simp only [zz]
 refine t1 5 (.slice (some ⟨b0, off, none⟩) n cap) h0 ?_
 simp only [zz]
 refine t1 6 (.int .i64 m) h0 ?_
 simp only [zz]
 refine t2 7 (.slice (some ⟨b0, off, none⟩) m cap) rfl h0 ?_ (fun w hSw => by have c0 := hcy w; go_simp)
 simp only [zz]
 refine rd 4 fun K hK => ?_
 go_simp
 refine (HTF.out v0 hrf).mono ?_
 rintro e v1 ⟨rfl, hk4⟩
 clear hrf
 refine hK.out _ _ (h0.tr hk4) (fun h1 => ?_)
 clear hK K
 try simp only [zz]
 refine rd 8 fun K hK => ?_
 go_simp
 refine (HSU.out v1 h1).mono ?_
 rintro e v2 ⟨rfl, hk8⟩
 clear hk4
 refine hK.out _ _ (h1.tr hk8) (fun h2 => ?_)
 clear hK K
 try simp only [zz]
 refine t2 9 (.bool c) rfl h2 ?_ (fun w hSw => by have c0 := HEQ; go_simp)
 simp only [zz]
 refine t1 10 (.slice (some ⟨b0, off, none⟩) m cap) h2 ?_
 simp only [zz]
 refine t1 11 (.bool c) h2 ?_
 simp only [zz]
 refine qd ?_
 go_wp2
 go_ret2
 exact ⟨rfl, HFK.out _ h2⟩
theorem ropened_ok (ao : Option Addr) (n cap : Nat) (xs : List UInt8) (w : World) (h : InB8 w ao n cap xs) :
  Calls Tryz.prog 32 #[.slice ao n cap] w fun e w' => (match openB xs with | some ys => e = .returned (.tuple #[.slice ao (n - 4) cap, .bool true]) ∧ ys = xs.take (n - 4) ∧ 4 <= n ∧ n <= 131072 | none => ∃ v, e = .returned (.tuple #[v, .bool false])) ∧ Kept [] w w' := by
 by_cases h1 : n < 4 ∨ 131072 < n
 ·have : openB xs = none := by unfold openB; rw [h.len, if_pos h1]
  rw [this]
  exact ropened_long ao n cap w h1
 ·have hin := ropened_in ao n cap (n - 4) xs w h (by omega) (by omega) _ rfl
  by_cases h2 : Pure.be (xs.drop (n - 4)) = Pure.sum (xs.take (n - 4))
  ·have : openB xs = some (xs.take (n - 4)) := by unfold openB; rw [h.len, if_neg h1, if_pos h2]
   rw [this]
   refine hin.mono fun e w' hh => ⟨⟨by rw [hh.1, decide_eq_true h2], rfl, by omega, by omega⟩, hh.2⟩
  ·have : openB xs = none := by unfold openB; rw [h.len, if_neg h1, if_neg h2]
   rw [this]
   refine hin.mono fun e w' hh => ⟨⟨.slice ao (n - 4) cap, by rw [hh.1, decide_eq_false h2]⟩, hh.2⟩
end

end Go.Proofs.YtmklodligplbaabGreat
