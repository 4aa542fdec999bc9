/-
  Contract: press.Pack. (Written by tools/vh.py.)
-/
import Derived.Test.YtdnbpklnkmgmkaaVg
import Derived.Test.YtdnbpklnkmgmkaaUg
namespace Go.Proofs.Ytdnbpklnkmgmkaa
open Go.RowKit
set_option linter.unusedVariables false
set_option linter.unusedSimpArgs false

namespace Prs
/-- More fuel says nothing. -/
theorem items_fuel (data : List UInt8) : ∀ (f g at_ : Nat), at_ ≤ data.length → data.length - at_ ≤ f → data.length - at_ ≤ g → items data f at_ = items data g at_
  | 0, g, at_, h, h1, h2 => by
    have e : ¬ at_ < data.length := by omega
    cases g with
    | zero => rfl
    | succ g => simp only [items]; rw [if_neg e]
  | f + 1, g, at_, h, h1, h2 => by
    by_cases e : at_ < data.length
    · obtain ⟨_, i1, i2⟩ := item_made data at_ e
      cases g with
      | zero => omega
      | succ g =>
        simp only [items]
        rw [if_pos e, if_pos e, items_fuel data f g _ i2 (by omega) (by omega)]
    · cases g with
      | zero => simp only [items]; rw [if_neg e]
      | succ g => simp only [items]; rw [if_neg e, if_neg e]
theorem items_cons (data : List UInt8) (f at_ : Nat) (h : at_ < data.length) (hf : data.length - at_ ≤ f) : ∃ g, data.length - (at_ + (itemAt data at_).2) ≤ g ∧ items data f at_ = (itemAt data at_).1 :: items data g (at_ + (itemAt data at_).2) := by
  obtain ⟨_, i1, i2⟩ := item_made data at_ h
  cases f with
  | zero => omega
  | succ f => exact ⟨f, by omega, by simp only [items]; rw [if_pos h]⟩
end Prs

theorem Gr.chInt {w w' : World} {G B M : Nat} {bo : Option Addr} {bc : Nat} {bs : List UInt8} {fl it : Nat} (h : Gr w G B bo bc bs fl it) (hc : Ch 3 M w w') (hM : ∃ es c, w.heap[M]? = some (.map es c)) : Gr w' G B bo bc bs fl it := by
  obtain ⟨es, c, hM⟩ := hM
  refine ⟨(hc.block G h.lt ?_ (fun cur e => ?_)).trans h.row, ⟨h.own.1, ?_⟩, h.le⟩
  · rintro rfl; rw [h.row] at hM; cases hM
  · rw [h.row] at e; injection e with e; injection e with _ e _; cases e
  · rcases h.own.2 with h1 | ⟨g, cap, cur, h1, h2, h3, h4⟩
    · exact .inl h1
    · refine .inr ⟨g, cap, cur, h1, h2, (hc.block g (Array.getElem?_eq_some_iff.1 h3).1 ?_ (fun cur' e => ?_)).trans h3, h4⟩
      · rintro rfl; rw [h3] at hM; cases hM
      · rw [h3] at e; injection e with e; injection e with _ e _; cases e

/-- While it packs: u bytes are packed, the places of t are kept. -/
structure Pk (w wr : World) (G M : Nat) (data R : List UInt8) (t u : Nat) : Prop where
  ex : ∃ bo bc pre cur fl it es clock, Gr wr G w.heap.size bo bc (Prs.outOf pre cur) fl it ∧ Prs.Sync pre cur fl it ∧ Pm wr M data t es clock ∧ (∀ fuel, data.length - u ≤ fuel → Prs.encs (Prs.items data fuel u) pre cur = R) ∧ it ≤ u ∧ (Prs.outOf pre cur).length ≤ 2 * u
  below : Below w.heap.size w wr
  mB : w.heap.size ≤ M

theorem Pk.kept {w wr w' : World} {G M : Nat} {data R : List UInt8} {t u : Nat} (h : Pk w wr G M data R t u) (hk : Kept [] wr w') : Pk w w' G M data R t u := by
  obtain ⟨bo, bc, pre, cur, fl, it, es, clock, h1, h2, h3, h4⟩ := h.ex
  exact ⟨⟨bo, bc, pre, cur, fl, it, es, clock, h1.kept hk, h2, h3.kept hk, h4⟩, h.below.trans (hk.below h.below.size (by simp)), h.mB⟩

/-- One item more. -/
theorem Pk.item {w wr w' : World} {G M : Nat} {data : List UInt8} {t : Nat} {pre : List UInt8} {cur : List Prs.Item} {fl it : Nat} {es : Array MapEntry} {clock : Nat} {R : List UInt8} {bo : Option Addr} {bc : Nat} {bo' : Option Addr} {bc' : Nat} (h1 : Gr wr G w.heap.size bo bc (Prs.outOf pre cur) fl it) (h2 : Prs.Sync pre cur fl it) (h3 : Pm wr M data t es clock) (h4 : ∀ fuel, data.length - t ≤ fuel → Prs.encs (Prs.items data fuel t) pre cur = R) (h5 : it ≤ t) (h6 : (Prs.outOf pre cur).length ≤ 2 * t) (hB : Below w.heap.size w wr) (hMB : w.heap.size ≤ M) (ht : t < data.length)
    (i : Prs.Item) (l : Nat) (hi : Prs.itemAt data t = (i, l)) (hg : Gr w' G w.heap.size bo' bc' (Prs.outOf (Prs.nxt pre cur i).1 (Prs.nxt pre cur i).2) (Prs.nxt pre cur i).1.length (it + 1)) (hc : Ch 5 G wr w') (hb : Below w.heap.size wr w') :
    Pk w w' G M data R t (t + l) := by
  obtain ⟨e1, e2, e3⟩ := Prs.item_made data t ht
  rw [hi] at e1 e2 e3
  simp only at e2 e3
  have hlen := Prs.nxt_len h2 i
  have hbody : (Prs.bodyOf i).length + 1 ≤ 2 * l := by
    unfold Prs.itemAt at hi
    split at hi
    · next h => injection hi with a b; subst a; subst b; simp only [Prs.bodyOf, List.length_cons, List.length_nil]; omega
    · injection hi with a b; subst a; subst b; simp [Prs.bodyOf]
  refine ⟨⟨bo', bc', _, _, _, _, es, clock, hg, h2.next i, h3.ch hc ⟨_, _, h1.row⟩, fun fuel hf => ?_, by omega, by omega⟩, hB.trans hb, hMB⟩
  have := h4 (fuel + data.length + 1) (by omega)
  obtain ⟨g, hg', e⟩ := Prs.items_cons data (fuel + data.length + 1) t ht (by omega)
  rw [hi] at e hg'
  rw [e, Prs.encs_nxt] at this
  rw [Prs.items_fuel data fuel g _ e3 hf hg']
  exact this

theorem pk_start (w : World) (data R : List UInt8) (hR : ∀ fuel, data.length - 0 ≤ fuel → Prs.encs (Prs.items data fuel 0) [] [] = R) : Pk w ((w.alloc (.cells #[.slice none 0 0, .int .i64 0, .int .i64 0] 87)).alloc (.map #[] 0)) w.heap.size (w.heap.size + 1) data R 0 0 := by
  have hsz : (w.alloc (.cells #[.slice none 0 0, .int .i64 0, .int .i64 0] 87)).heap.size = w.heap.size + 1 := by simp
  have hk := (Kept.refl [] w).alloc (.cells #[.slice none 0 0, .int .i64 0, .int .i64 0] 87)
  refine ⟨⟨none, 0, [], [], 0, 0, #[], 0, ⟨?_, World.ownsRow_nil _ _ _ _, Nat.le_refl _⟩, Prs.sync_start, ?_, hR, Nat.le_refl _, by simp [Prs.outOf]⟩, (hk.alloc _).below (Nat.le_refl _) (by simp), by omega⟩
  · rw [(MapKept.heap_alloc _ _).2 _ (by omega)]
    exact (MapKept.heap_alloc _ _).1
  · have := Pm.start (w.alloc (.cells #[.slice none 0 0, .int .i64 0, .int .i64 0] 87)) data
    rwa [hsz] at this

set_option maxHeartbeats 4000000 in
set_option maxRecDepth 100000 in
theorem pack_in (pa : Option Addr) (N pc : Nat) (data : List UInt8) (w : World) (hN : data.length = N) (hmax : N ≤ 4096) (hs : Sl w pa data) :
    Calls Try.prog 40 #[.slice pa N pc] w (Ans w (Prs.pack data, 0)) := by
  have hq1 : ¬ ((4096 : Int) < (N : Int)) := by omega
  obtain ⟨R, hR⟩ : ∃ R, Prs.pack data = R := ⟨_, rfl⟩
  rw [hR]
  have HR : Hid (∀ fuel, data.length - 0 ≤ fuel → Prs.encs (Prs.items data fuel 0) [] [] = R) := fun fuel hf => by rw [← hR]; unfold Prs.pack; rw [Prs.items_fuel data fuel data.length 0 (Nat.zero_le _) hf (by omega)]
  have HS := hide hs
  have HN := hide hN
  have hmm := @run_makeMap Try.prog
  clear hR hs hN
  go_enter Try.func40, Try.ntmps40
  go_wp2
  have HP0 : Hid (Pk w ((w.alloc (.cells #[.slice none 0 0, .int .i64 0, .int .i64 0] 87)).alloc (.map #[] 0)) w.heap.size (w.heap.size + 1) data R 0 0) := pk_start w data R HR.out
  obtain ⟨G, hG⟩ : ∃ G, G = w.heap.size := ⟨_, rfl⟩
  obtain ⟨M, hM⟩ : ∃ M, M = w.heap.size + 1 := ⟨_, rfl⟩
  rw [← hM, ← hG] at HP0
  rw [← hM, ← hG]
  have HGM : Hid (G = w.heap.size) := hG
  clear hG hM hmm
  go_loopw [6] (fun i wr => ∃ t : Nat, t ≤ N ∧ i = .int .i64 t ∧ Hid (Pk w wr G M data R t t)) (fun i _ => N - (intOf i).toNat)
  case atStart => exact ⟨0, Nat.zero_le _, rfl, HP0.out⟩
  case round =>
    clear HP0
    obtain ⟨t, ht, rfl, HP⟩ := hrel
    by_cases htN : t < N
    · have hq2 : (t : Int) < (N : Int) := by omega
      obtain ⟨pb, po, hpa, hpb, hcell⟩ := HS.out.open (by rintro rfl; have := HN.out; simp at this; omega)
      subst hpa
      have HPC : Hid (pb < w.heap.size ∧ ∀ i, i < data.length → w.cell? ⟨pb, po + i, none⟩ = some (.int .u8 (data.getD i 0).toNat)) := ⟨hpb, hcell⟩
      clear hpb hcell
      obtain ⟨tl, td, hth⟩ : ∃ tl td, Prs.thr (Prs.mtch data t) = (tl, td) := ⟨_, _, rfl⟩
      have HTH := hide hth
      have HLo : Hid (Calls Try.prog 44 #[.map (some M), .slice (some ⟨pb, po, none⟩) N pc, .int .i64 t] wr fun e w' => e = .returned (.agg #[.int .i64 td, .int .i64 tl]) ∧ Kept [] wr w') := by
        obtain ⟨bo, bc, pre, cur, fl, it, es, clock, h1, h2, h3, h4, h5, h6⟩ := HP.out.ex
        have := longest_any h3 pb po N pc HN.out hmax ht (fun i hi => (HP.out.below.cell (by exact HPC.out.1)).trans (HPC.out.2 i hi))
        rw [hth] at this
        exact this
      clear hth
      by_cases h3 : 3 ≤ tl
      · have hq3 : (3 : Int) ≤ (tl : Int) := by omega
        have hmt : Prs.mtch data t = (tl, td) := by
          have := HTH.out
          unfold Prs.thr at this
          split at this
          · exact this
          · injection this with a b; omega
        have hmi := Prs.mtch_is data t (by rw [hmt]; omega)
        rw [hmt] at hmi
        simp only at hmi
        have hl66 : tl ≤ 66 := by have := Prs.alike_le data 66 (t - td) t; omega
        have hitem : Prs.itemAt data t = (.mat td tl, tl) := by rw [Prs.itemAt_thr, HTH.out, if_pos h3]
        have htl : t + tl ≤ N := by have := (Prs.item_made data t (by have := HN.out; omega)).2.2; rw [hitem] at this; have := HN.out; omega
        have HTL := hide htl
        have HCM : Hid (∀ W, Kept [] wr W → Calls Try.prog 45 #[.pointer (some ⟨G, 0, none⟩), .agg #[.int .i64 td, .int .i64 tl]] W fun e w' => e = .returned (.tuple #[]) ∧ Pk w w' G M data R t (t + tl) ∧ Ch 5 G W w') := fun W hk => by
          obtain ⟨bo, bc, pre, cur, fl, it, es, clock, g1, g2, g3, g4, g5, g6⟩ := (HP.out.kept hk).ex
          refine (gmat_ok td tl hmi.1 hmi.2.1 h3 hl66 g1 g2 (by omega) (by omega)).mono ?_
          rintro e w' ⟨rfl, ⟨bo', bc', hG'⟩, hC', hB'⟩
          exact ⟨rfl, Pk.item g1 g2 g3 g4 g5 g6 (HP.out.kept hk).below HP.out.mB (by have := HN.out; omega) _ _ hitem hG' hC' hB', hC'⟩
        have hGlt : G < wr.heap.size := by obtain ⟨bo, bc, pre, cur, fl, it, es, clock, g1, _⟩ := HP.out.ex; exact g1.lt
        have HGL := hide hGlt
        clear hmt hmi hitem htl hGlt HP
        go_wp2_with (first
          | (go_at_call 44; refine HLo.out.mono ?_; rintro e w1 ⟨rfl, hk1⟩; have HK2 : Hid (Kept [] wr (w1.alloc (.cells #[.int .i64 td, .int .i64 tl] 91)) ∧ (w1.alloc (.cells #[.int .i64 td, .int .i64 tl] 91)).heap[w1.heap.size]? = some (.cells #[.int .i64 td, .int .i64 tl] 91) ∧ G ≠ w1.heap.size) := ⟨hk1.alloc _, (MapKept.heap_alloc _ _).1, by have := HGL.out; have := hk1.size; omega⟩; clear hk1)
          | (go_at_call 45; generalize w1.heap.size = T at HK2 ⊢; generalize w1.alloc (.cells #[.int .i64 td, .int .i64 tl] 91) = w2 at HK2 ⊢; refine (HCM.out _ HK2.out.1).mono ?_; rintro e w3 ⟨rfl, hP3, hC3⟩; have hT3 : w3.heap[T]? = some (.cells #[.int .i64 td, .int .i64 tl] 91) := (hC3.block T (Array.getElem?_eq_some_iff.1 HK2.out.2.1).1 (fun e => HK2.out.2.2 e.symm) (fun cur h => by have := HK2.out.2.1.symm.trans h; injection this with this; injection this with _ this _; cases this)).trans HK2.out.2.1; have i1 : w3.cell? ⟨T, 1, none⟩ = some (.int .i64 tl) := (by rw [cell_of_row w3 T 1 _ _ _ hT3]; rfl); have HP4 := hide hP3; clear hP3 hC3 hT3 HK2)
          | go_in)
        go_loopw [6, 34] (fun i c wr => ∃ k : Nat, k ≤ tl ∧ i = .int .i64 ((t + k : Nat) : Int) ∧ c = .int .i64 k ∧ Hid (Pk w wr G M data R (t + k) (t + tl))) (fun _ c _ => tl - (intOf c).toNat)
        case atStart => exact ⟨0, Nat.zero_le _, by simp, by simp, HP4.out⟩
        case round =>
          clear HP4
          obtain ⟨k, hkl, rfl, rfl, HK⟩ := hrel
          by_cases hk : k < tl
          · have hq6 : ((k : Int) < (tl : Int)) := by omega
            have HA : Hid (Calls Try.prog 47 #[.map (some M), .slice (some ⟨pb, po, none⟩) N pc, .int .i64 ((t + k : Nat) : Int)] wr fun e w' => e = .returned (.tuple #[]) ∧ Pk w w' G M data R (t + (k + 1)) (t + tl)) := by
              obtain ⟨bo, bc, pre, cur, fl, it, es, clock, h1, h2, h3, h4, h5, h6⟩ := HK.out.ex
              refine (add_ok h3 pb po N pc HN.out hmax (by have := HTL.out; omega) (fun i hi => (HK.out.below.cell (by exact HPC.out.1)).trans (HPC.out.2 i hi))).mono ?_
              rintro e w' ⟨rfl, ⟨es', clock', hPm⟩, hCh, hBl⟩
              refine ⟨rfl, ⟨bo, bc, pre, cur, fl, it, es', clock', h1.chInt hCh ⟨_, _, h3.row⟩, h2, hPm, h4, h5, h6⟩, HK.out.below.trans ⟨hBl.os, hBl.tape, hBl.output, hBl.size, fun i hi => hBl.block i (Nat.lt_of_lt_of_le hi HK.out.mB)⟩, HK.out.mB⟩
            have htk : t + k < 4096 := by have := HTL.out; omega
            obtain ⟨tk, htk2⟩ : ∃ tk, tk = t + k := ⟨_, rfl⟩
            rw [← htk2] at HA htk
            rw [← htk2]
            have HTK := hide htk2
            clear htk2
            go_wp2_with (go_at_call 47; refine HA.out.mono ?_; rintro e w7 ⟨rfl, hP7⟩; have HP7 := hide hP7; clear hP7)
            go_roundw
            case rel => exact ⟨k + 1, by omega, by have := HTK.out; go_num, by go_num, HP7.out⟩
            case measure => simp [intOf]; omega
          · have hkl2 : k = tl := by omega
            subst hkl2
            have hq6 : ¬ ((k : Int) < (k : Int)) := by omega
            go_wp2
            go_roundw
            case rel => exact ⟨t + k, HTL.out, rfl, HK.out⟩
            case measure => simp [intOf]; have := HTL.out; omega
      · have hq3 : ¬ ((3 : Int) ≤ (tl : Int)) := by omega
        have hitem : Prs.itemAt data t = (.lit (data.getD t 0), 1) := by rw [Prs.itemAt_thr, HTH.out, if_neg h3]
        have HTL : Hid (t + 1 ≤ N) := htN
        have HCM : Hid (∀ W, Kept [] wr W → Calls Try.prog 46 #[.pointer (some ⟨G, 0, none⟩), .int .u8 (data.getD t 0).toNat] W fun e w' => e = .returned (.tuple #[]) ∧ Pk w w' G M data R t (t + 1)) := fun W hk => by
          obtain ⟨bo, bc, pre, cur, fl, it, es, clock, g1, g2, g3, g4, g5, g6⟩ := (HP.out.kept hk).ex
          refine (glit_ok (data.getD t 0) g1 g2 (by omega) (by omega)).mono ?_
          rintro e w' ⟨rfl, ⟨bo', bc', hG'⟩, hC', hB'⟩
          exact ⟨rfl, Pk.item g1 g2 g3 g4 g5 g6 (HP.out.kept hk).below HP.out.mB (by have := HN.out; omega) _ _ hitem hG' hC' hB'⟩
        have HBW := hide HP.out.below
        obtain ⟨xb, hxb⟩ : ∃ xb, xb = (data.getD t 0).toNat := ⟨_, rfl⟩
        rw [← hxb] at HCM
        have HXB := hide hxb
        clear hitem HP hxb
        go_wp2_with (first
          | (go_at_call 44; refine HLo.out.mono ?_; rintro e w1 ⟨rfl, hk1⟩; have cx : w1.cell? ⟨pb, po + t, none⟩ = some (.int .u8 xb) := (by rw [HXB.out]; exact hk1.cellOf ((HBW.out.cell (by exact HPC.out.1)).trans (HPC.out.2 t (by have := HN.out; omega))) (by simp)); have hpw : pb < w1.heap.size := (by have := HPC.out.1; have := HBW.out.size; have := hk1.size; omega); have HK2 : Hid (Kept [] wr (w1.alloc (.cells #[.int .i64 td, .int .i64 tl] 91))) := hk1.alloc _; clear hk1)
          | (go_at_call 46; refine (HCM.out _ HK2.out).mono ?_; rintro e w3 ⟨rfl, hP3⟩; have HP4 := hide hP3; clear hP3 HK2 cx hpw)
          | go_in)
        go_loopw [6, 34] (fun i c wr => ∃ k : Nat, k ≤ 1 ∧ i = .int .i64 ((t + k : Nat) : Int) ∧ c = .int .i64 k ∧ Hid (Pk w wr G M data R (t + k) (t + 1))) (fun _ c _ => 1 - (intOf c).toNat)
        case atStart => exact ⟨0, Nat.zero_le _, by simp, by simp, HP4.out⟩
        case round =>
          clear HP4
          obtain ⟨k, hkl, rfl, rfl, HK⟩ := hrel
          by_cases hk : k < 1
          · have hq6 : ((k : Int) < (1 : Int)) := by omega
            have HA : Hid (Calls Try.prog 47 #[.map (some M), .slice (some ⟨pb, po, none⟩) N pc, .int .i64 ((t + k : Nat) : Int)] wr fun e w' => e = .returned (.tuple #[]) ∧ Pk w w' G M data R (t + (k + 1)) (t + 1)) := by
              obtain ⟨bo, bc, pre, cur, fl, it, es, clock, h1, h2, h3, h4, h5, h6⟩ := HK.out.ex
              refine (add_ok h3 pb po N pc HN.out hmax (by have := HTL.out; omega) (fun i hi => (HK.out.below.cell (by exact HPC.out.1)).trans (HPC.out.2 i hi))).mono ?_
              rintro e w' ⟨rfl, ⟨es', clock', hPm⟩, hCh, hBl⟩
              refine ⟨rfl, ⟨bo, bc, pre, cur, fl, it, es', clock', h1.chInt hCh ⟨_, _, h3.row⟩, h2, hPm, h4, h5, h6⟩, HK.out.below.trans ⟨hBl.os, hBl.tape, hBl.output, hBl.size, fun i hi => hBl.block i (Nat.lt_of_lt_of_le hi HK.out.mB)⟩, HK.out.mB⟩
            have htk : t + k < 4096 := by have := HTL.out; omega
            obtain ⟨tk, htk2⟩ : ∃ tk, tk = t + k := ⟨_, rfl⟩
            rw [← htk2] at HA htk
            rw [← htk2]
            have HTK := hide htk2
            clear htk2
            go_wp2_with (go_at_call 47; refine HA.out.mono ?_; rintro e w7 ⟨rfl, hP7⟩; have HP7 := hide hP7; clear hP7)
            go_roundw
            case rel => exact ⟨k + 1, by omega, by have := HTK.out; go_num, by go_num, HP7.out⟩
            case measure => simp [intOf]; omega
          · have hkl2 : k = 1 := by omega
            rw [hkl2] at HK
            rw [hkl2]
            clear hkl2 hkl hk
            have hq6 : ¬ ((1 : Int) < (1 : Int)) := by omega
            go_wp2
            go_roundw
            case rel => exact ⟨t + 1, HTL.out, rfl, HK.out⟩
            case measure => simp [intOf]; have := HTL.out; omega
    · have htN2 : t = N := by omega
      have hq2 : ¬ ((t : Int) < (N : Int)) := by omega
      obtain ⟨bo, bc, pre, cur, fl, it, es, clock, g1, g2, g3, g4, g5, g6⟩ := HP.out.ex
      have hfin := g4 0 (by have := HN.out; omega)
      have he : Prs.encs (Prs.items data 0 t) pre cur = Prs.outOf pre cur := rfl
      rw [he] at hfin
      have c0 := g1.c0
      rw [hfin] at c0
      have HO : Hid (wr.ownsRow w.heap.size 5 1 (.slice bo R.length bc) R.length (bys R) ∧ Below w.heap.size w wr) := ⟨by rw [← hfin]; exact g1.own, HP.out.below⟩
      clear htN2 g1 g2 g3 g4 g5 g6 hfin he htN
      go_wp2
      go_ret2
      exact ⟨bo, bc, rfl, HO.out.1, HO.out.2⟩

set_option maxHeartbeats 1000000 in
set_option maxRecDepth 100000 in
theorem pack_long (pa : Option Addr) (N pc : Nat) (w : World) (hN : 4096 < N) :
    Calls Try.prog 40 #[.slice pa N pc] w (Ans w ([], 2)) := by
  have hq1 : (4096 : Int) < (N : Int) := by omega
  go_enter Try.func40, Try.ntmps40
  go_wp2
  go_ret2
  exact ans_none 2 (Below.refl _ _)

/-- Pack, as mathematics. -/
def Prs.packed (data : List UInt8) : List UInt8 × Nat := if 4096 < data.length then ([], 2) else (Prs.pack data, 0)
theorem pack_any (pa : Option Addr) (N pc : Nat) (data : List UInt8) (w : World) (hN : data.length = N) (hs : Sl w pa data) :
    Calls Try.prog 40 #[.slice pa N pc] w (Ans w (Prs.packed data)) := by
  unfold Prs.packed
  by_cases h : 4096 < data.length
  · rw [if_pos h]; exact pack_long pa N pc w (by omega)
  · rw [if_neg h]; exact pack_in pa N pc data w hN (by omega) hs

end Go.Proofs.Ytdnbpklnkmgmkaa
