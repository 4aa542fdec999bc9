import Derived.Test.YtmklodligplbaaaGreatD8am
import Derived.Test.YtmklodligplbaaaGreatMemm
import Derived.Deep.RegionWith
import Derived.Test.YtmklodligplbaaaGreatClonem
import Derived.Test.YtmklodligplbaaaGreatProg
import Derived.Test.YtmklodligplbaaaGreatNim
import Derived.Deep.QuietTactic
import Derived.BigQuiet
import Derived.Great.BuildSlice
open Go.RowKit
set_option linter.unusedVariables false
set_option linter.unusedSimpArgs false
set_option maxRecDepth 100000
set_option maxHeartbeats 51200000
namespace Go.Proofs.YtmklodligplbaaaGreat
section
theorem Wr.cell0 {w : World} {b : Nat} {bs : List Nat} {xs : List UInt8} (h : Wr w b bs xs) : w.cell? ⟨b, 0, none⟩ = some (.int .i64 0) := by
 obtain ⟨q, last, h1, _, _⟩ := h.ex; rw [h1.cell]; rfl
theorem Wr.cell67 {w : World} {b : Nat} {bs : List Nat} {xs : List UInt8} (h : Wr w b bs xs) : w.cell? ⟨b, 67, none⟩ = some (.int .i64 xs.length) := by
 obtain ⟨q, last, h1, _, _⟩ := h.ex; rw [h1.cell]; exact wrow_size _ _ _ _ _ h1.len
theorem Wr.frozen {w : World} {b : Nat} {bs : List Nat} {xs : List UInt8} (h : Wr w b bs xs) (j : Nat) : w.frozen? ⟨b, j, none⟩ = false := by
 obtain ⟨q, last, h1, _, _⟩ := h.ex; exact h1.frozen j
theorem Wr.lt {w : World} {b : Nat} {bs : List Nat} {xs : List UInt8} (h : Wr w b bs xs) : b < w.heap.size := World.block_lt_of_cell? _ _ h.cell0
theorem Wr.alloc {w : World} {b : Nat} {bs : List Nat} {xs : List UInt8} (h : Wr w b bs xs) (o : Obj) : Wr (w.alloc o) b bs xs := h.kept ((Kept.refl [] w).alloc o) (by simp) (by simp)
theorem Wr.drewN {w : World} {b : Nat} {bs : List Nat} {xs : List UInt8} (h : Wr w b bs xs) (n : Nat) : Wr (w.drewN n) b bs xs := h.kept ((Kept.refl [] w).drewN n) (by simp) (by simp)
def Wrote (w w' : World) (b : Nat) (bs : List Nat) (xs : List UInt8) : Prop :=
 ∃ bs', Wr w' b bs' xs ∧ Kept [b] w w' ∧ ∀ g, g ∈ bs' -> g ∈ bs ∨ w.heap.size <= g
theorem Wrote.trans {w w1 w2 : World} {b : Nat} {bs bs1 : List Nat} {xs : List UInt8} (hk : Kept [b] w w1) (hs : ∀ g, g ∈ bs1 -> g ∈ bs ∨ w.heap.size <= g) (h : Wrote w1 w2 b bs1 xs) : Wrote w w2 b bs xs := by
 obtain ⟨bs', h1, h2, h3⟩ := h
 refine ⟨bs', h1, hk.tr h2, fun g hg => ?_⟩
 rcases h3 g hg with h | h
 ·exact hs g h
 ·exact .inr (Nat.le_trans hk.size h)
theorem put_one (b : Nat) (bs : List Nat) (ys : List UInt8) (c : UInt8) (g : Nat) (w : World) (hW : Wr w b bs ys) (hc : w.cell? ⟨g, 0, none⟩ = some (.int .u8 c.toNat)) (hg : g ≠ b) (hsum : ys.length < 140737488355328) :
  Calls Tryz.prog 97 #[.pointer (some ⟨b, 0, none⟩), .slice (some ⟨g, 0, none⟩) 1 1] w fun e w' => e = .returned (.tuple #[]) ∧ Wrote w w' b bs (ys ++ [c]) :=
 put_any b bs ys [c] (some ⟨g, 0, none⟩) 1 w hW (Sl.of (fun i hi => by
  obtain rfl : i = 0 := by simpa using hi
  simpa using hc)) (by rintro a ⟨⟩; exact hg) (by simp) (by simp; omega)
theorem wclosed_ok (b : Nat) (w : World) (h0 : w.cell? ⟨b, 0, none⟩ = some (.int .i64 0)) :
  Calls Tryz.prog 96 #[.pointer (some ⟨b, 0, none⟩)] w fun e w' => e = .returned (.bool false) ∧ w' = w := by
 go_enter Tryz.func96, Tryz.ntmps96
 go_wp2
 go_ret
 exact ⟨rfl, rfl⟩
theorem wnumber_ok {b : Nat} {bs : List Nat} {ys : List UInt8} {w : World} (hW : Wr w b bs ys) (v : Nat) (hv : v <= 2147483647) (hsum : ys.length + 5 <= 140737488355328) :
  Calls Tryz.prog 68 #[.pointer (some ⟨b, 0, none⟩), .int .i64 v] w fun e w' => e = .returned (.tuple #[]) ∧ Wrote w w' b bs (ys ++ Pure.enc v) := by
 have h0 := hW.cell0
 have H := (show Hid _ from hW)
 clear hW
 have hel := Pure.enc_len5 hv
 go_enter Tryz.func68, Tryz.ntmps68
 go_wp2_with (go_at_call 96; refine (wclosed_ok _ _ h0).mono ?_; rintro e w' ⟨rfl, hw⟩; obtain rfl := hw.symm)
 go_loopw [1] (fun x wr => ∃ (n : Nat) (zs : List UInt8) (bs' : List Nat), x = .int .i64 n ∧ n <= 2147483647 ∧ Hid (ys ++ Pure.enc v = zs ++ Pure.enc n) ∧ zs.length + (Pure.enc n).length <= ys.length + 5 ∧ Hid (Wr wr b bs' zs ∧ Kept [b] w wr ∧ ∀ g, g ∈ bs' -> g ∈ bs ∨ w.heap.size <= g)) (fun x wr => (intOf x).toNat)
 case atStart => exact ⟨v, ys, bs, rfl, hv, rfl, by omega, H.out, Kept.refl _ _, fun g hg => .inl hg⟩
 case round =>
  clear H h0
  obtain ⟨n, zs, bs', rfl, hn, HE, hlen, HW⟩ := hrel
  by_cases h128 : n < 128
  ·have hg128 : ¬ ((128 : Int) <= (n : Int)) := by omega
   have HC : Hid (Pure.enc n = [UInt8.ofNat n]) := Pure.enc_small h128
   have hl1 : zs.length + 1 <= ys.length + 5 := by rw [HC.out] at hlen; simpa using hlen
   clear hlen
   have hcell : (wr.alloc (.cells #[.int .u8 (n : Int)] 5)).cell? ⟨wr.heap.size, 0, none⟩ = some (.int .u8 ((UInt8.ofNat n).toNat : Nat)) := by
    rw [World.cell?_alloc_new, Pure.toNat_ofNat_small (by omega)]; rfl
   go_wp2_with (fail)
   refine (put_one b bs' zs (UInt8.ofNat n) wr.heap.size _ (HW.out.1.alloc _) hcell (by have := HW.out.1.lt; omega) (by omega)).mono ?_
   rintro e w2 ⟨rfl, hwr⟩
   clear hcell
   have hfin : Hid (Wrote w w2 b bs (ys ++ Pure.enc v)) := by
    show Wrote _ _ _ _ _
    rw [HE.out, HC.out]
    exact Wrote.trans (HW.out.2.1.alloc _) HW.out.2.2 hwr
   clear hwr HW
   go_wp2
   go_end0
   exact ⟨rfl, hfin.out⟩
  ·have HC : Hid (Pure.enc n = UInt8.ofNat (n % 128 + 128) :: Pure.enc (n / 128)) := Pure.enc_more h128
   have hl1 : zs.length + 1 + (Pure.enc (n / 128)).length <= ys.length + 5 := by rw [HC.out] at hlen; simp at hlen; omega
   clear hlen
   have hcell : (wr.alloc (.cells #[.int .u8 ((n : Int) % 128 + 128)] 5)).cell? ⟨wr.heap.size, 0, none⟩ = some (.int .u8 ((UInt8.ofNat (n % 128 + 128)).toNat : Nat)) := by
    rw [World.cell?_alloc_new, Pure.toNat_ofNat_small (by omega)]; rfl
   go_wp2_with (fail)
   refine (put_one b bs' zs (UInt8.ofNat (n % 128 + 128)) wr.heap.size _ (HW.out.1.alloc _) hcell (by have := HW.out.1.lt; omega) (by omega)).mono ?_
   rintro e w2 ⟨rfl, hwr⟩
   clear hcell
   obtain ⟨bs2, hw2, hk2, hs2⟩ := hwr
   have hfin : Hid (Wr w2 b bs2 (zs ++ [UInt8.ofNat (n % 128 + 128)]) ∧ Kept [b] w w2 ∧ ∀ g, g ∈ bs2 -> g ∈ bs ∨ w.heap.size <= g) := by
    refine ⟨hw2, (HW.out.2.1.alloc _).tr hk2, fun g hg => ?_⟩
    rcases hs2 g hg with h | h
    ·exact HW.out.2.2 g h
    ·exact .inr (Nat.le_trans (HW.out.2.1.alloc _).size h)
   clear hw2 hk2 hs2 HW
   go_wp2
   go_roundw
   case rel => exact ⟨n / 128, zs ++ [UInt8.ofNat (n % 128 + 128)], bs2, by go_num, by omega, by show _ = _; rw [HE.out, HC.out]; simp, by simp; omega, hfin⟩
   case measure => simp [intOf]; omega
end

section
structure DataRel (w wr : World) (n : Nat) (xs : List UInt8) (k : Nat) (q : Option Addr) : Prop where
 ch : ∃ bs, Chain w q bs (xs.take k)
 le : k <= n
 row : ∃ R : List Value, wr.heap[w.heap.size]? = some (.cells R.toArray 5 (0, 0)) ∧ R.length = n ∧ R.drop k = bys (xs.drop k)
 below : Below w.heap.size w wr
theorem Chain.inv {w : World} {q : Option Addr} {bs : List Nat} {zs : List UInt8} (h : Chain w q bs zs) :
  (q = none ∧ zs = []) ∨ ∃ g q' bs' zs' p, q = some ⟨g, 0, none⟩ ∧ zs = zs' ++ p ∧ p.length = 64 ∧ w.heap[g]? = some (.cells (bys p ++ [Value.pointer q']).toArray 172 (0, 0)) ∧ Chain w q' bs' zs' := by
 cases h with
 | nil => exact .inl ⟨rfl, rfl⟩
 | cons hp hg hc => exact .inr ⟨_, _, _, _, _, rfl, rfl, hp, hg, hc⟩
theorem splice_drop {α : Type} (L cs : List α) (o k : Nat) (h : o + cs.length = k) (hk : k <= L.length) : (splice L o cs).drop o = cs ++ L.drop k ∧ (splice L o cs).length = L.length := by
 subst h
 refine ⟨?_, length_splice _ _ _ hk⟩
 unfold splice
 rw [List.drop_append, List.drop_eq_nil_of_le (by rw [List.length_take]; exact Nat.min_le_left _ _), List.length_take, Nat.min_eq_left (by omega)]
 simp
theorem wdata_own {b : Nat} {bs : List Nat} {xs : List UInt8} {w : World} (hW : Wr w b bs xs) (hsum : xs.length <= 140737488355328) :
  Calls Tryz.prog 99 #[.pointer (some ⟨b, 0, none⟩)] w fun e w' => ∃ ao cap, e = .returned (.tuple #[.slice ao xs.length cap, .int .i64 0]) ∧ Fresh w w' ao cap xs ∧ ao ≠ none ∧ Kept [] w w' ∧ w'.ownsRow w.heap.size 5 1 (.slice ao xs.length cap) xs.length (bys xs) := by
 have h0 := hW.cell0
 have h67 := hW.cell67
 have hbw := hW.lt
 obtain ⟨i0, hi, hz0, hz1, hz2⟩ := info_parts Tryz.infoByte
 obtain ⟨q, last, hwb, hlast, hch⟩ := hW.ex
 obtain ⟨n, hn⟩ := nm (xs.length)
 have hnx := hn
 rw [hn] at h67 hsum hwb hlast hch ⊢
 have HN : Hid (xs.length = n) := hn
 clear hn
 obtain ⟨s, hs⟩ := nm (n % 64)
 rw [hs] at hlast hch
 have hs64 : s < 64 := by omega
 have htm : (n : Int).tmod 64 = (s : Int) := by rw [Int.tmod_eq_emod_of_nonneg (by omega)]; omega
 have HSn : Hid (n % 64 = s) := hs
 have hsn : s <= n := by omega
 clear hs hnx
 have HX := (show Hid (_ ∧ _ ∧ _) from ⟨hwb, hlast, hch⟩)
 clear hwb hlast hch hW
 go_enter Tryz.func99, Tryz.ntmps99
 go_wp2_with (first | (go_at_call 96; refine (wclosed_ok _ _ h0).mono ?_; rintro e w' ⟨rfl, hw⟩; obtain rfl := hw.symm) | (at_make; refine wpList_make_full _ rfl _ _ 22 rfl w.heap.size 5 i0 (.int .u8 0) 1 Tryz.underlying22 hi hz0 hz1 .i64 .i64 n n n rfl rfl rfl rfl ?c1 ?c2 ?c3 ?_))
 case c1 => rw [hz2]; omega
 case c2 => unfold maxLen; omega
 case c3 => exact Nat.le_refl _
 intro w1 hown hgrow
 have hB1 : Below w.heap.size w w1 := (Below.refl _ _).grown hgrow (Nat.le_refl _) (by simp)
 obtain ⟨C, hClen, hrow⟩ : ∃ C : List Value, C.length = n ∧ w1.heap[w.heap.size]? = some (.cells C.toArray 5 (0, 0)) := by
  rcases hown.2 with ⟨h, _⟩ | ⟨g, cap, cur, hv, _, hg, _, _, hsz, _⟩
  ·cases h
  ·cases hv
   exact ⟨cur.toList, by simpa using hsz, by simpa using hg⟩
 clear hown hgrow
 have hb1 : w1.cell? ⟨b, 67, none⟩ = some (.int .i64 n) := (hB1.cell (p := ⟨b, 67, none⟩) hbw).trans h67
 have hq1 : w1.cell? ⟨b, 2, none⟩ = some (.pointer q) := (hB1.cell (p := ⟨b, 2, none⟩) hbw).trans (by rw [HX.out.1.cell]; rfl)
 have hsz1 : w.heap.size < w1.heap.size := (gs hrow).1
 clear h67
 go_wp2
 go_quiet (fail)
 obtain ⟨ao2, hao2⟩ : ∃ ao2, ao2 = (if n = n - s then some (⟨w.heap.size, 0, none⟩ : Addr) else some ⟨w.heap.size, 0 + (n - s), none⟩) := ⟨_, rfl⟩
 have hcut : ∀ W, (Instr.slice 22 (.slice (some ⟨w.heap.size, 0, none⟩) n n) (some (.int .i64 ((n : Int) - (s : Int)))) none none).run Tryz.prog W = .ok (.slice ao2 s s) W := fun W => by
  rw [hao2, show ((n : Int) - (s : Int)) = ((n - s : Nat) : Int) by omega]
  have := Tryz.cutFrom W none w.heap.size 0 n n (n - s) (by omega)
  rw [show n - (n - s) = s by omega] at this
  exact this
 have HA : Hid (ao2 = (if n = n - s then some (⟨w.heap.size, 0, none⟩ : Addr) else some ⟨w.heap.size, 0 + (n - s), none⟩)) := hao2
 clear hao2
 have hall := fun W => Tryz.slice64all W b 3
 obtain ⟨w2, hw2⟩ : ∃ w2, w2 = w1.drewN nq := ⟨_, rfl⟩
 have hB2 : Below w.heap.size w w2 := by rw [hw2]; exact ⟨hB1.os, hB1.tape, hB1.output, hB1.size, hB1.block⟩
 have hrow2 : w2.heap[w.heap.size]? = some (.cells C.toArray 5 (0, 0)) := by rw [hw2]; exact hrow
 have hq2 : w2.cell? ⟨b, 2, none⟩ = some (.pointer q) := by rw [hw2]; exact hq1
 rw [<-hw2]
 clear hw2 hB1 hrow hb1 hq1 hsz1
 go_wp2
 go_still_tail 7, Tryz.follows
 rw [World.drew_eq]
 obtain ⟨cs, hcs⟩ : ∃ cs, cs = bys (last.take s) := ⟨_, rfl⟩
 have hcsl : cs.length = s := by rw [hcs, bys_length, List.length_take, HX.out.1.len]; omega
 refine wpList_copy_splice rfl (.tmp 26) (.tmp 30) 22 22 rfl 5 Tryz.underlying22 Tryz.sizeByte ao2 (some ⟨b, 3, none⟩) s s 64 64 rfl rfl w.heap.size (n - s) C 5 hrow2 cs (by rw [hcsl]; simp only [Nat.min_def]; split <;> omega) ?k1 (by rw [hcsl]; omega) (by rw [hcs]; exact bys_oneCell _) w.heap.size w hB2.drew (Nat.le_refl _) ?_
 case k1 =>
  intro hpos
  rw [HA.out, if_neg (by omega)]
  refine ⟨by simp, ⟨b, 3, none⟩, rfl, fun j u hu => ?_⟩
  rw [hcs] at hu
  obtain ⟨hj, rfl⟩ := bys_get hu
  rw [Addr.add_mid, World.cell?_drew, hB2.cell (p := ⟨b, 3 + j, none⟩) hbw, HX.out.1.cell, show 3 + j = j + 1 + 1 + 1 by omega]
  simp only [wrow, List.getElem?_cons_succ]
  have hjl : j < last.length := by simp at hj; omega
  rw [List.getElem?_append_left (by rw [bys_length]; exact hjl), bys_at hjl]
  simp at hj
  simp [show j < s by omega]
 intro w3 hR3 hB3
 have hq3 : w3.cell? ⟨b, 2, none⟩ = some (.pointer q) := (hB3.cell (p := ⟨b, 2, none⟩) hbw).trans (by rw [HX.out.1.cell]; rfl)
 have HI : Hid (DataRel w w3 n xs (n - s) q) := by
  refine ⟨⟨bs, HX.out.2.2⟩, by omega, ⟨_, hR3.out, ?_, ?_⟩, hB3⟩
  ·rw [(splice_drop C cs (n - s) n (by omega) (by omega)).2]; exact hClen
  ·rw [(splice_drop C cs (n - s) n (by omega) (by omega)).1, List.drop_of_length_le (by omega), List.append_nil, hcs, HX.out.2.1]
 clear hR3 hB3 hrow2 hB2 hq2 hcs hcsl hcut hall HA htm
 go_wp2
 have hcast : ((n : Int) - (s : Int)) = ((n - s : Nat) : Int) := by omega
 rw [hcast]
 clear hcast hq3
 go_loopw [5, 6] (fun x y wr => ∃ (k : Nat) (q' : Option Addr), x = .int .i64 k ∧ y = .pointer q' ∧ Hid (DataRel w wr n xs k q')) (fun x y wr => (intOf x).toNat)
 case atStart => exact ⟨n - s, q, rfl, rfl, HI⟩
 case round =>
  clear HI
  obtain ⟨k, q', rfl, rfl, HR⟩ := hrel
  have hkn := HR.out.le
  obtain ⟨bs', hch⟩ := HR.out.ch
  obtain ⟨R, hrow, hRl, hRd⟩ := HR.out.row
  rcases hch.inv with ⟨rfl, hz⟩ | ⟨g, q2, bs2, zs, p, rfl, hz, hp, hg, hc2⟩
  ·have hk0 : k = 0 := by
    have := congrArg List.length hz
    rw [List.length_take, HN.out, List.length_nil] at this
    omega
   have hfin : Hid (Fresh w wr (some ⟨w.heap.size, 0, none⟩) n xs ∧ Kept [] w wr ∧ wr.ownsRow w.heap.size 5 1 (.slice (some ⟨w.heap.size, 0, none⟩) n n) n (bys xs)) := by
    subst hk0
    simp only [List.drop_zero] at hRd
    refine ⟨⟨Sl.of fun i hi => ?_, by rw [HN.out]; exact Nat.le_refl _, by simp, fun a ha => by cases ha; exact ⟨Nat.le_refl _, (gs hrow).1, rfl⟩⟩, Kept.of_below HR.out.below, by rw [bys_length, HN.out]; omega, .inr ⟨_, n, _, rfl, Nat.le_refl _, hrow, Nat.le_refl _, by unfold maxLen; omega, by simp [hRl], by rw [hRd, List.take_of_length_le (by rw [bys_length, HN.out]; omega)]⟩⟩
    rw [cell_of_row wr _ _ _ _ _ hrow, hRd]
    simpa using bys_at hi
   clear hrow hRl hRd hch hz HR hk0
   go_wp2
   go_ret2
   exact ⟨some ⟨w.heap.size, 0, none⟩, n, rfl, hfin.out.1, by simp, hfin.out.2.1, hfin.out.2.2⟩
  ·have hlen : zs.length + 64 = k := by
    have := congrArg List.length hz
    rw [List.length_take, HN.out, List.length_append, hp] at this
    omega
   obtain ⟨m, hm⟩ := nm (zs.length)
   rw [hm] at hlen
   have hmn : m + 64 <= n := by omega
   have hgw : g < w.heap.size := (gs hg).1
   have hgc : ∀ j, w.cell? ⟨g, j, none⟩ = (bys p ++ [Value.pointer q2])[j]? := fun j => by rw [cell_of_row w g j _ _ _ hg]; simp
   have hzs : zs = xs.take m := by
    have h1 : (xs.take k).take m = zs := by
     rw [hz, List.take_append_of_le_length (by omega), List.take_of_length_le (by omega)]
    rw [List.take_take, Nat.min_eq_left (by omega)] at h1
    exact h1.symm
   have hpd : p ++ xs.drop k = xs.drop m := by
    have h1 : xs = xs.take m ++ (p ++ xs.drop k) := by
     rw [<-List.append_assoc, <-hzs, <-hz, List.take_append_drop]
    have h2 := congrArg (List.drop m) h1
    rw [List.drop_append_of_le_length (by simp; have := HN.out; omega), List.drop_of_length_le (l := xs.take m) (by simp; omega), List.nil_append] at h2
    exact h2.symm
   have hcut : ∀ W, (Instr.slice 22 (.slice (some ⟨w.heap.size, 0, none⟩) n n) (some (.int .i64 ((k : Int) - 64))) none none).run Tryz.prog W = .ok (.slice (some ⟨w.heap.size, m, none⟩) (n - m) (n - m)) W := fun W => by
    rw [show ((k : Int) - 64) = (m : Int) by omega]
    have := Tryz.cutFrom W none w.heap.size 0 n n m (by omega)
    rw [if_neg (by omega), Nat.zero_add] at this
    exact this
   have hall := fun W => Tryz.slice64all W g 0
   have hB := HR.out.below
   have HZ := (show Hid (_ ∧ _ ∧ _ ∧ _) from ⟨hRd, hpd, hzs, hc2⟩)
   have HL : Hid (m + 64 = k) := hlen
   have hk64 : 64 <= k := by omega
   clear hRd hpd hzs hc2 hz hch HR hlen hm
   go_wp2
   go_still_tail 7, Tryz.follows
   rw [World.drew_eq]
   refine wpList_copy_splice rfl (.tmp 46) (.tmp 50) 22 22 rfl 5 Tryz.underlying22 Tryz.sizeByte (some ⟨w.heap.size, m, none⟩) (some ⟨g, 0, none⟩) (n - m) (n - m) 64 64 rfl rfl w.heap.size m R 5 hrow (bys p) (by rw [bys_length, hp]; simp only [Nat.min_def]; split <;> omega) ?k2 (by rw [bys_length, hp]; omega) (bys_oneCell _) w.heap.size w hB.drew (Nat.le_refl _) ?_
   case k2 =>
    intro hpos
    refine ⟨rfl, ⟨g, 0, none⟩, rfl, fun j u hu => ?_⟩
    rw [Addr.add_mid, World.cell?_drew, hB.cell (p := ⟨g, 0 + j, none⟩) hgw, hgc, Nat.zero_add, List.getElem?_append_left (List.getElem?_eq_some_iff.1 hu).1]
    exact hu
   intro w4 hR4 hB4
   have hq4 : w4.cell? ⟨g, 64, none⟩ = some (.pointer q2) := by
    rw [hB4.cell (p := ⟨g, 64, none⟩) hgw, hgc, List.getElem?_append_right (by rw [bys_length]; omega), bys_length, hp]
    rfl
   have HN4 : Hid (DataRel w w4 n xs m q2) := by
    have hl := HL.out
    refine ⟨⟨bs2, by rw [<-HZ.out.2.2.1]; exact HZ.out.2.2.2⟩, by omega, ⟨_, hR4.out, ?_, ?_⟩, hB4⟩
    ·rw [(splice_drop R (bys p) m k (by rw [bys_length, hp]; exact hl) (by omega)).2]; exact hRl
    ·rw [(splice_drop R (bys p) m k (by rw [bys_length, hp]; exact hl) (by omega)).1, HZ.out.1, <-bys_append, HZ.out.2.1]
   clear hR4 hB4 hrow hB hcut hall hgc hg
   go_wp2
   go_roundw
   case rel => exact ⟨m, q2, by have := HL.out; go_num, rfl, HN4⟩
   case measure => have := HL.out; simp [intOf]; omega
end

section
theorem wfixed_ok {b : Nat} {bs : List Nat} {ys : List UInt8} {w : World} (hW : Wr w b bs ys) (v n : Nat) (hn1 : 1 <= n) (hn4 : n <= 4) (hv : v < 256 ^ n) (hsum : ys.length + 4 <= 140737488355328) :
  Calls Tryz.prog 67 #[.pointer (some ⟨b, 0, none⟩), .int .i64 v, .int .i64 n] w fun e w' => e = .returned (.tuple #[]) ∧ Wrote w w' b bs (ys ++ Pure.fix v n) := by
 have h0 := hW.cell0
 have H := (show Hid _ from hW)
 clear hW
 have hz0 : v / 2 ^ (8 * n) = 0 := Nat.div_eq_of_lt (by rw [Nat.pow_mul]; exact hv)
 have hz : ((v : Int) / 2 ^ (8 * n) != 0) = false := by
  have : ((v : Int) / 2 ^ (8 * n)) = ((v / 2 ^ (8 * n) : Nat) : Int) := by simp
  rw [this, hz0]; rfl
 have d1 : decide ((n : Int) < 1) = false := by simp; omega
 have d2 : decide (4 < (n : Int)) = false := by simp; omega
 have d3 : decide ((v : Int) < 0) = false := by simp
 have HV : Hid (v < 256 ^ n) := hv
 clear hz0 hv
 go_enter Tryz.func67, Tryz.ntmps67
 go_wp2_with (go_at_call 96; refine (wclosed_ok _ _ h0).mono ?_; rintro e w' ⟨rfl, hw⟩; obtain rfl := hw.symm)
 go_loopw [6] (fun x wr => ∃ (k : Nat) (zs : List UInt8) (bs' : List Nat), x = .int .i64 ((k : Int) - 1) ∧ k <= n ∧ Hid (ys ++ Pure.fix v n = zs ++ Pure.fix v k) ∧ zs.length + k <= ys.length + 4 ∧ Hid (Wr wr b bs' zs ∧ Kept [b] w wr ∧ ∀ g, g ∈ bs' -> g ∈ bs ∨ w.heap.size <= g)) (fun x wr => (intOf x + 1).toNat)
 case atStart => exact ⟨n, ys, bs, rfl, Nat.le_refl _, rfl, by omega, H.out, Kept.refl _ _, fun g hg => .inl hg⟩
 case round =>
  clear H h0
  obtain ⟨k, zs, bs', rfl, hk, HE, hlen, HW⟩ := hrel
  cases k with
  | zero =>
   have hfin : Hid (Wrote w wr b bs (ys ++ Pure.fix v n)) := by
    show Wrote _ _ _ _ _
    rw [HE.out]
    simp only [Pure.fix, List.append_nil]
    exact ⟨bs', HW.out⟩
   clear HW
   go_wp2
   go_end0
   exact ⟨rfl, hfin.out⟩
  | succ j =>
   rw [show (((j + 1 : Nat) : Int) - 1) = (j : Int) by omega]
   have HC : Hid (Pure.fix v (j + 1) = UInt8.ofNat (v / 256 ^ j % 256) :: Pure.fix v j) := rfl
   have hcell : (wr.alloc (.cells #[.int .u8 ((v : Int) / 2 ^ (8 * j) % 256)] 5)).cell? ⟨wr.heap.size, 0, none⟩ = some (.int .u8 ((UInt8.ofNat (v / 256 ^ j % 256)).toNat : Nat)) := by
    rw [World.cell?_alloc_new, Pure.toNat_ofNat_small (by omega)]
    have : ((v : Int) / 2 ^ (8 * j) % 256) = ((v / 256 ^ j % 256 : Nat) : Int) := by
     rw [show (256 : Nat) ^ j = 2 ^ (8 * j) by rw [Nat.pow_mul]]
     simp
    rw [this]; rfl
   go_wp2_with (fail)
   refine (put_one b bs' zs (UInt8.ofNat (v / 256 ^ j % 256)) wr.heap.size _ (HW.out.1.alloc _) hcell (by have := HW.out.1.lt; omega) (by omega)).mono ?_
   rintro e w2 ⟨rfl, hwr⟩
   clear hcell
   obtain ⟨bs2, hw2, hk2, hs2⟩ := hwr
   have hfin : Hid (Wr w2 b bs2 (zs ++ [UInt8.ofNat (v / 256 ^ j % 256)]) ∧ Kept [b] w w2 ∧ ∀ g, g ∈ bs2 -> g ∈ bs ∨ w.heap.size <= g) := by
    refine ⟨hw2, (HW.out.2.1.alloc _).tr hk2, fun g hg => ?_⟩
    rcases hs2 g hg with h | h
    ·exact HW.out.2.2 g h
    ·exact .inr (Nat.le_trans (HW.out.2.1.alloc _).size h)
   clear hw2 hk2 hs2 HW
   go_wp2
   go_roundw
   case rel => exact ⟨j, zs ++ [UInt8.ofNat (v / 256 ^ j % 256)], bs2, by go_num, by omega, by show _ = _; rw [HE.out, HC.out]; simp, by simp; omega, hfin⟩
   case measure => simp [intOf]
end

section
theorem wraw_ok {b : Nat} {bs : List Nat} {ys : List UInt8} {w : World} (hW : Wr w b bs ys) (ao : Option Addr) (n cap : Nat) (xs : List UInt8) (hn : xs.length = n) (hs : Sl w ao xs) (hfar : ∀ a, ao = some a -> a.block ≠ b) (hlc : xs.length <= cap) (hsum : ys.length + xs.length <= 140737488355328) :
  Calls Tryz.prog 69 #[.pointer (some ⟨b, 0, none⟩), .slice ao n cap] w fun e w' => e = .returned (.tuple #[]) ∧ Wrote w w' b bs (ys ++ xs) := by
 subst hn
 have h0 := hW.cell0
 have H := (show Hid _ from hW)
 have HS : Hid (Sl w ao xs) := hs
 have HF := (show Hid _ from hfar)
 clear hW hs hfar
 go_enter Tryz.func69, Tryz.ntmps69
 go_wp2_with (first | (go_at_call 96; refine (wclosed_ok _ _ h0).mono ?_; rintro e w' ⟨rfl, hw⟩; obtain rfl := hw.symm) | (go_at_call 97; refine (put_any b bs ys xs ao cap _ H.out HS.out HF.out hlc hsum).mono ?_; rintro e w2 ⟨rfl, hwr⟩))
 go_end0
 exact ⟨rfl, hwr⟩
theorem wtext_ok {b : Nat} {bs : List Nat} {ys : List UInt8} {w : World} (hW : Wr w b bs ys) (ao : Option Addr) (n cap : Nat) (xs : List UInt8) (hn : xs.length = n) (hs : Sl w ao xs) (hfar : ∀ a, ao = some a -> a.block ≠ b) (hlc : xs.length <= cap) (hsum : ys.length + 5 + xs.length <= 140737488355328) (hmax : xs.length <= 2147483647) :
  Calls Tryz.prog 98 #[.pointer (some ⟨b, 0, none⟩), .slice ao n cap] w fun e w' => e = .returned (.tuple #[]) ∧ Wrote w w' b bs (ys ++ Pure.enc xs.length ++ xs) := by
 have H := (show Hid _ from hW)
 have HS : Hid (Sl w ao xs) := hs
 have HF := (show Hid _ from hfar)
 have hel := Pure.enc_len5 hmax
 clear hW hs hfar
 go_enter Tryz.func98, Tryz.ntmps98
 go_wp2_with (fail)
 rw [<-hn]
 refine (wnumber_ok H.out xs.length hmax (by omega)).mono ?_
 rintro e w1 ⟨rfl, bs1, hw1, hk1, hs1⟩
 have hsl1 := HS.out.kept hk1 (fun _ a ha => by simpa using HF.out a ha)
 have HW1 := (show Hid _ from hw1)
 have HS1 : Hid (Sl w1 ao xs) := hsl1
 clear hw1 hsl1 H
 go_wp2_with (fail)
 refine (wraw_ok HW1.out ao _ cap xs hn HS1.out HF.out hlc (by simp; omega)).mono ?_
 rintro e w2 ⟨rfl, hwr⟩
 have hfin : Hid (Wrote w w2 b bs (ys ++ Pure.enc xs.length ++ xs)) := Wrote.trans hk1 hs1 hwr
 clear hwr
 go_wp2
 go_end0
 exact ⟨rfl, hfin.out⟩
end

section
theorem rot_bits (x n : Nat) (hx : x < 4294967296) : bits .or .u32 ((x : Int) / 2 ^ n) ((x : Int) * 2 ^ (32 - n) % 4294967296) = (Sha.rot x n : Nat) := by
 have h := u32_or_nat (x / 2 ^ n) (x * 2 ^ (32 - n) % 4294967296) (Sha.div_lt _ hx) (Nat.mod_lt _ (by omega))
 unfold Sha.rot
 rw [<-h]
 simp
theorem turned_ok (x n : Nat) (w : World) (hx : x < 4294967296) (hn : n < 32) (hn0 : 0 < n) :
  Calls Tryz.prog 128 #[.int .u32 x, .int .u64 n] w fun e w' => e = .returned (.int .u32 (Sha.rot x n)) ∧ w' = w := by
 have hr := rot_bits x n hx
 go_enter Tryz.func128, Tryz.ntmps128
 go_wp2
 go_ret
 exact ⟨rfl, rfl⟩
theorem rturned_ok (x n : Nat) (w : World) (hx : x < 4294967296) (hn : n < 32) (hn0 : 0 < n) :
  Calls Tryz.prog 119 #[.int .u32 x, .int .i64 n] w fun e w' => e = .returned (.int .u32 (Sha.rot x n)) ∧ ∃ m, w' = w.drewN m := by
 have hr := rot_bits x n hx
 have h1 : (0 : Int) <= 32 - (n : Int) := by omega
 go_enter Tryz.func119, Tryz.ntmps119
 go_wp2
 go_quiet (fail)
 go_wp2
 go_ret
 exact ⟨rfl, _, rfl⟩
def wds (l : List Nat) : List Value := l.map fun (n : Nat) => Value.int .u32 (n : Int)
def zero64 : Array Value := (wds (List.replicate 64 0)).toArray
def zero8 : Array Value := (wds (List.replicate 8 0)).toArray
theorem Tryz.zeroW64 (W : World) : (zeroValue 155).run Tryz.prog W = .ok (.agg zero64) W := by kernel_rfl
theorem Tryz.zeroW8 (W : World) : (zeroValue 153).run Tryz.prog W = .ok (.agg zero8) W := by kernel_rfl
theorem wds_len (l : List Nat) : (wds l).length = l.length := by simp [wds]
theorem wds_at {l : List Nat} {i : Nat} (h : i < l.length) : (wds l)[i]? = some (.int .u32 (l.getD i 0 : Nat)) := by simp [wds, List.getElem?_eq_getElem h]
theorem wds_set (l : List Nat) (i v : Nat) : (wds l).set i (.int .u32 v) = wds (l.set i v) := by simp [wds, List.map_set]
theorem wds_oneCell (l : List Nat) : ∀ u ∈ wds l, u.oneCell' = true := by
 intro u hu
 simp only [wds, List.mem_map] at hu
 obtain ⟨x, _, rfl⟩ := hu
 rfl
theorem Tryz.info64 : (Tryz.prog.info? 155).map (·.size) = some 64 := by kernel_rfl
theorem Tryz.info8 : (Tryz.prog.info? 153).map (·.size) = some 8 := by kernel_rfl
theorem Tryz.followsD : Tryz.prog.follows .mixedOrders = true := by kernel_rfl
theorem ret_row {P : Program} {fn : Func} {p : Tmp} {ty : TypeId} {R : Ending -> World -> Prop} {a : Act} {w : World} (h : fn.results = #[.cell p ty]) (hd : a.defers = []) (g : Nat) (t : TypeId) (cs : Array Value) (fr : Nat × Nat) (d : TypeDesc)
  (hp : a.tmps.getD p undef = .pointer (some ⟨g, 0, none⟩)) (hg : w.heap[g]? = some (.cells cs t fr)) (hu : P.underlying ty = some d) (hx : (match d with | .struct _ | .array _ _ => true | _ => false) = true) (hi : (P.info? ty).map (·.size) = some cs.size)
  (hR : R (.returned (.agg cs)) w) : bodyPost P fn R .ret a w :=
 bodyPost_ret (results_cell_row h a.tmps w g t cs fr d hp hg hu hx hi) hd hR
theorem below_row {B : Nat} {w w1 : World} {g : Nat} (h : Below B w w1) (hg : B <= g) (cs : Array Value) : Below B w (w1.setRow g cs) :=
 ⟨h.os, h.tape, h.output, by rw [size_setRow]; exact h.size, fun k hk => (setRow_other w1 g k cs (by omega)).trans (h.block k hk)⟩
theorem table_ok (w : World) :
  Calls Tryz.prog 126 #[] w fun e w' => e = .returned (.agg (wds Sha.table).toArray) ∧ Below w.heap.size w w' := by
 have hz := Tryz.zeroW64
 have hrow : (w.alloc (.cells zero64 155)).heap[w.heap.size]? = some (.cells zero64 155 (0, 0)) := heap_alloc_new _ _
 go_enter Tryz.func126, Tryz.ntmps126
 go_wp2_with (first | refine wpList_buildTo rfl 155 _ rfl (some 1) rfl (wds Sha.table).toArray (by kernel_rfl) ?_ | refine wpList_store_row rfl 155 (.tmp 0) (.tmp 1) rfl w.heap.size (wds Sha.table).toArray rfl rfl 155 zero64 hrow Tryz.info64 (by kernel_rfl) (by kernel_rfl) ?_)
 exact ret_row rfl rfl w.heap.size 155 (wds Sha.table).toArray (0, 0) _ rfl (setRow_heap _ _ _ _ _ _ hrow) Tryz.underlying155 rfl Tryz.info64 ⟨rfl, below_row ((Below.refl _ _).alloc (Nat.le_refl _) _) (Nat.le_refl _) _⟩
theorem rtable_ok (w : World) :
  Calls Tryz.prog 102 #[] w fun e w' => e = .returned (.agg (wds Sha.table).toArray) ∧ Below w.heap.size w w' := by
 have hz := Tryz.zeroW64
 have hrow : (w.alloc (.cells zero64 155)).heap[w.heap.size]? = some (.cells zero64 155 (0, 0)) := heap_alloc_new _ _
 go_enter Tryz.func102, Tryz.ntmps102
 go_wp2_with (first | refine wpList_buildTo rfl 155 _ rfl (some 1) rfl (wds Sha.table).toArray (by kernel_rfl) ?_ | refine wpList_store_row rfl 155 (.tmp 0) (.tmp 1) rfl w.heap.size (wds Sha.table).toArray rfl rfl 155 zero64 hrow Tryz.info64 (by kernel_rfl) (by kernel_rfl) ?_)
 exact ret_row rfl rfl w.heap.size 155 (wds Sha.table).toArray (0, 0) _ rfl (setRow_heap _ _ _ _ _ _ hrow) Tryz.underlying155 rfl Tryz.info64 ⟨rfl, below_row ((Below.refl _ _).alloc (Nat.le_refl _) _) (Nat.le_refl _) _⟩
theorem first_ok (w : World) :
  Calls Tryz.prog 122 #[] w fun e w' => e = .returned (.agg (wds Sha.first.words).toArray) ∧ Below w.heap.size w w' := by
 have hz := Tryz.zeroW8
 have hrow : (w.alloc (.cells zero8 153)).heap[w.heap.size]? = some (.cells zero8 153 (0, 0)) := heap_alloc_new _ _
 go_enter Tryz.func122, Tryz.ntmps122
 go_wp2_with (first | refine wpList_buildTo rfl 153 _ rfl (some 1) rfl (wds Sha.first.words).toArray (by kernel_rfl) ?_ | refine wpList_store_row rfl 153 (.tmp 0) (.tmp 1) rfl w.heap.size (wds Sha.first.words).toArray rfl rfl 153 zero8 hrow Tryz.info8 (by kernel_rfl) (by kernel_rfl) ?_)
 exact ret_row rfl rfl w.heap.size 153 (wds Sha.first.words).toArray (0, 0) _ rfl (setRow_heap _ _ _ _ _ _ hrow) Tryz.underlying153 rfl Tryz.info8 ⟨rfl, below_row ((Below.refl _ _).alloc (Nat.le_refl _) _) (Nat.le_refl _) _⟩
theorem rfirst_ok (w : World) :
  Calls Tryz.prog 101 #[] w fun e w' => e = .returned (.agg (wds Sha.first.words).toArray) ∧ Below w.heap.size w w' := by
 have hz := Tryz.zeroW8
 have hrow : (w.alloc (.cells zero8 153)).heap[w.heap.size]? = some (.cells zero8 153 (0, 0)) := heap_alloc_new _ _
 go_enter Tryz.func101, Tryz.ntmps101
 go_wp2_with (first | refine wpList_buildTo rfl 153 _ rfl (some 1) rfl (wds Sha.first.words).toArray (by kernel_rfl) ?_ | refine wpList_store_row rfl 153 (.tmp 0) (.tmp 1) rfl w.heap.size (wds Sha.first.words).toArray rfl rfl 153 zero8 hrow Tryz.info8 (by kernel_rfl) (by kernel_rfl) ?_)
 exact ret_row rfl rfl w.heap.size 153 (wds Sha.first.words).toArray (0, 0) _ rfl (setRow_heap _ _ _ _ _ _ hrow) Tryz.underlying153 rfl Tryz.info8 ⟨rfl, below_row ((Below.refl _ _).alloc (Nat.le_refl _) _) (Nat.le_refl _) _⟩
end

end Go.Proofs.YtmklodligplbaaaGreat
