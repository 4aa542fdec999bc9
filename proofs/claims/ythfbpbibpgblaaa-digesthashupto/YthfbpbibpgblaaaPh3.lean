/-
  The walk of DigestHash.
-/
import Derived.Test.YthfbpbibpgblaaaPh2b
import Derived.Deep.Cut
import Derived.Deep.RegionHeld3
namespace Go.Proofs.Ythfbpbibpgblaaa
open Go.RowKit
set_option linter.unusedVariables false
set_option linter.unusedSimpArgs false

theorem range_row' {w : World} {g : Nat} {L : List UInt8} {t : TypeId} (h : w.heap[g]? = some (.cells (bys L).toArray t (0, 0))) : w.rangeAt g 0 (bys L) := fun j v hv => by
  rw [cell_of_row _ _ _ _ _ _ h, List.getElem?_toArray, Nat.zero_add]; exact hv
theorem range_kept {w w2 : World} {g : Nat} {L : List Value} (h : w.rangeAt g 0 L) (hk : Kept [] w w2) : w2.rangeAt g 0 L := fun j v hv => hk.cellOf (h j v hv) (by simp)

set_option maxHeartbeats 12000000 in
set_option maxRecDepth 100000 in
theorem hash_walk (so : Option Addr) (m cap : Nat) (L : List Cl) (w : World) (hL : L.length = m) (hm : m ≤ 9223372036854775807) (hsc : Scr w so L) (hsum : tot L L.length ≤ 1048576) :
    Calls Try.prog 3 #[.slice so m cap] w fun e w' => e = .returned (.bool true) ∧ Below w.heap.size w w' := by
  have hzb := Try.zeroB32
  have hzh := Try.zeroHash
  have hz4 := Try.zeroHs
  have hzt := Try.zeroTk
  have HL := hide hL
  have HSC := hide hsc
  have HSUM := hide hsum
  clear hL hsc hsum
  go_enter Try.func3, Try.ntmps3
  go_wp2_with (fail)
  refine (known_any _).mono ?_
  rintro e w1 ⟨rfl, hb1⟩
  have hs1 := hb1.size
  have HD0 : Hid (DhRel w ((w1.alloc (.cells zero4 30)).alloc (.cells #[.slice none 0 0, .slice none 0 0, .slice none 0 0, .slice none 0 0] 32)) w1.heap.size (w1.heap.size + 1) (fun _ => none) (fun _ => 0) (fun _ => []) 0) := by
    refine ⟨(ha_zero (heap_alloc_new w1 _)).kept ((Kept.refl [] _).alloc _) (by simp), ⟨?_, fun _ _ => Sl.nil _ _, fun _ _ _ => ⟨rfl, rfl⟩, fun _ _ h => absurd rfl h⟩, (((Kept.of_below hb1).alloc _).alloc _), by omega, fun _ _ => by simp⟩
    have := heap_alloc_new (w1.alloc (.cells zero4 30)) (.cells #[.slice none 0 0, .slice none 0 0, .slice none 0 0, .slice none 0 0] 32)
    rw [World.size_alloc] at this
    exact this
  clear hb1
  go_wp2_with (fail)
  generalize World.alloc (World.alloc w1 _) _ = w2 at HD0 ⊢
  obtain ⟨TB, hTB⟩ : ∃ TB, TB = w1.heap.size + 1 := ⟨_, rfl⟩
  obtain ⟨HB, hHB⟩ : ∃ HB, HB = w1.heap.size := ⟨_, rfl⟩
  rw [← hTB] at HD0 ⊢
  rw [← hHB] at HD0 ⊢
  clear hTB hHB hz4 hzt hs1
  go_loopw [5] (fun x wr => ∃ (i : Nat) (ao : Nat → Option Addr) (cp : Nat → Nat) (ms : Nat → List UInt8), i ≤ m ∧ i ≤ 60 ∧ x = .int .i64 i ∧ Hid (DhRel w wr HB TB ao cp ms (tot L i))) (fun x wr => m - (intOf x).toNat)
  case atStart => exact ⟨0, _, _, _, Nat.zero_le _, by omega, rfl, HD0⟩
  case round =>
    clear HD0
    obtain ⟨i, ao, cp, ms, him, hi60, rfl, HD⟩ := hrel
    have hge := HD.out.ge
    have hlt1 := HD.out.ha.lt
    have hlt2 := HD.out.tk.lt
    by_cases hgo : i < m ∧ i < 60
    · obtain ⟨hgo1, hgo2⟩ := hgo
      obtain ⟨b, off, hso, hcl⟩ := HSC.out i (by rw [HL.out]; exact hgo1)
      subst hso
      have htot := tot_succ L i (by rw [HL.out]; exact hgo1)
      have htl := tot_le L (i + 1)
      have HTOT := hide htot
      have HTL := hide (Nat.le_trans htl HSUM.out)
      clear htot htl
      have HCL := hide hcl
      obtain ⟨c, hc⟩ : ∃ c, c = L.getD i cl0 := ⟨_, rfl⟩
      rw [← hc] at HCL HTOT
      have c0 := HD.out.kept.cellOf HCL.out.c0 (by simp)
      have c1 := HD.out.kept.cellOf HCL.out.c1 (by simp)
      have c2 := HD.out.kept.cellOf HCL.out.c2 (by simp)
      have c3 := HD.out.kept.cellOf HCL.out.c3 (by simp)
      obtain ⟨kind, at_, to_, da, dn, dc, ds⟩ := c
      simp only [Nat.mul_comm 4 i] at c0 c1 c2 c3
      clear hcl hc
      have hka : Kept [] wr (wr.alloc (.cells #[.int .i64 kind, .int .i64 at_, .int .i64 to_, .slice da dn dc] 34)) := (Kept.refl [] wr).alloc _
      have HDX := hide (show DhRel w (wr.alloc (.cells #[.int .i64 kind, .int .i64 at_, .int .i64 to_, .slice da dn dc] 34)) HB TB ao cp ms (tot L i) from ⟨HD.out.ha.kept hka (by simp), HD.out.tk.kept hka (by simp) (by simp), HD.out.kept.trans hka (by simp), HD.out.ge, HD.out.le⟩)
      have hX := heap_alloc_new wr (.cells #[.int .i64 kind, .int .i64 at_, .int .i64 to_, .slice da dn dc] 34)
      have HX := hide hX
      go_upto_region 9 with (fail)
      generalize World.alloc wr _ = w5 at HDX HX hka ⊢
      obtain ⟨Xb, hXb⟩ : ∃ Xb, Xb = wr.heap.size := ⟨_, rfl⟩
      rw [← hXb] at HX ⊢
      have hXn : Xb ≠ HB ∧ Xb ≠ TB := by omega
      have HIN := hide (show InB w da dn dc ds from HCL.out.inb)
      have HWV := hide (show (Lit.int .i64 at_).wf = true from HCL.out.wv)
      have HWW := hide (show (Lit.int .i64 to_).wf = true from HCL.out.ww)
      have HXW := hide (show w.heap.size ≤ Xb by have := HD.out.kept.size; omega)
      have x0 : w5.cell? ⟨Xb, 0, none⟩ = some (.int .i64 kind) := by rw [cell_of_row _ _ _ _ _ _ HX.out]; rfl
      have x1 : w5.cell? ⟨Xb, 1, none⟩ = some (.int .i64 at_) := by rw [cell_of_row _ _ _ _ _ _ HX.out]; rfl
      have x2 : w5.cell? ⟨Xb, 2, none⟩ = some (.int .i64 to_) := by rw [cell_of_row _ _ _ _ _ _ HX.out]; rfl
      have x3 : w5.cell? ⟨Xb, 3, none⟩ = some (.slice da dn dc) := by rw [cell_of_row _ _ _ _ _ _ HX.out]; rfl
      clear hX hka hXb c0 c1 c2 c3 HCL hlt1 hlt2 HD
      go_wp2_with (fail)
      refine (round_ok at_ _ HWV.out).mono ?_
      rintro e w' ⟨ra, hra, rfl, hw⟩
      obtain rfl := hw.symm
      clear hw
      go_wp2_with (fail)
      refine (round_ok to_ _ HWW.out).mono ?_
      rintro e w' ⟨rt, hrt, rfl, hw⟩
      obtain rfl := hw.symm
      clear hw
      obtain ⟨p, hp⟩ : ∃ p, p = ra % 4 := ⟨_, rfl⟩
      obtain ⟨t, ht⟩ : ∃ t, t = rt % 4 := ⟨_, rfl⟩
      have hp4 : p < 4 := by omega
      have ht4 : t < 4 := by omega
      have ep : (ra : Int) % 4 = (p : Int) := by omega
      have et : (rt : Int) % 4 = (t : Int) := by omega
      have ep' : (ra : Int).tmod 4 = (p : Int) := by rw [Int.tmod_eq_emod_of_nonneg (by omega)]; exact ep
      have et' : (rt : Int).tmod 4 = (t : Int) := by rw [Int.tmod_eq_emod_of_nonneg (by omega)]; exact et
      clear hp ht HWV HWW
      go_upto_region 11 with (fail)
      clear ep et ep' et' x1 x2 hra hrt
      have HTOT2 := hide (show tot L i ≤ tot L (i + 1) by have := HTOT.out; omega)
      by_cases h1 : kind = 1
      · obtain rfl : kind = 1 := h1
        have hdl := HIN.out.len
        have hdm : dn ≤ 1048576 := by have h2 := HTL.out; have h3 : tot L (i + 1) = tot L i + dn := HTOT.out; omega
        have hS5 := HIN.out.sl.kept HDX.out.kept (by simp)
        have HCR := hide (roomyRow_ok da dc ds w5 hS5 (fun h => HIN.out.nil h) (by omega) dn hdl)
        have hXl : Xb < w5.heap.size := (Array.getElem?_eq_some_iff.1 HX.out).1
        have hHl := HDX.out.ha.lt
        have hTl := HDX.out.tk.lt
        clear hS5
        go_wp2_with (fail)
        refine HCR.out.mono ?_
        rintro e w6 ⟨g, rfl, hg5, hg6, hb6⟩
        have HK6 := hide (Kept.of_below hb6)
        have HRM := hide (show Rm.At w6 ⟨g, ds⟩ from hg6)
        have hgn : g ≠ HB ∧ g ≠ TB ∧ g ≠ Xb := by omega
        obtain ⟨pre, post, hpl, hhs, hback⟩ := HDX.out.ha.get p hp4
        have hms : (ms p).length ≤ 1048576 := by have h1 := HDX.out.le p hp4; have h2 := HTL.out; have h3 := HTOT2.out; omega
        have HWR : Hid (Calls Try.prog 8 #[.pointer (some ⟨HB, p * 73, none⟩), .slice (some ⟨g, 0, none⟩) dn (dn + 160)] w6 fun e w' => e = .returned (.tuple #[]) ∧ Hs w' HB 30 pre post (ms p ++ ds) ∧ Kept [HB] w6 w') := by
          have := write_ok HB 30 pre post (ms p) ds (some ⟨g, 0, none⟩) (dn + 160) w6 (hhs.kept HK6.out (by simp)) HRM.out.sl (fun _ a ha => by cases ha; exact hgn.1) (by omega) (by omega) (p * 73) hpl.symm
          rw [hdl] at this
          exact this
        have HBK := hide hback
        clear hb6 hg6 hhs hback hpl HCR
        have hp4I : (p : Int) < 4 := by omega
        go_wp2_with (fail)
        refine HWR.out.mono ?_
        rintro e w7 ⟨rfl, hh7, hk7⟩
        have HA7 := hide (HBK.out w7 _ hh7)
        have HK57 := hide (HK6.out.mono (l2 := [HB]) (by simp) |>.trans hk7 (by simp))
        have HRM7 : Hid (Rm.At w7 ⟨g, ds⟩) := by
          show w7.heap[g]? = _
          rw [hk7.block g HRM.out.lt (by simp; exact hgn.1)]
          exact HRM.out
        have x37 := HK57.out.cellOf x3 (by simp; omega)
        have hS7 : Sl w7 da ds := HIN.out.sl.kept (HDX.out.kept.trans HK57.out (by simp; omega)) (by simp)
        have HCU := hide (untouchedRow_ok ⟨g, ds⟩ da dc w7 HRM7.out hS7 dn hdl (by omega))
        clear hh7 hk7 HWR HBK HRM HK6 hS7
        go_wp2_with (fail)
        refine HCU.out.mono ?_
        rintro e w8' ⟨rfl, nd, rfl⟩
        have hkd : Kept [] w7 (w7.drewN nd) := (Kept.refl [] w7).drewN nd
        have HA8 := hide (HA7.out.kept hkd (by simp))
        have HK58 := hide (HK57.out.trans hkd (by simp))
        have HR8 := hide (show (w7.drewN nd).heap[g]? = some (.cells (bys (ds ++ marks 160)).toArray 5 (0, 0)) from HRM7.out)
        clear hkd HA7 HK57 HRM7 HCU x37 x3 x0
        generalize w7.drewN nd = w8 at HA8 HK58 HR8 ⊢
        have hct : ∀ W, (Instr.slice 31 (.slice (some ⟨g, 0, none⟩) dn (dn + 160)) none (some (.int .i64 ((dn : Int) + 160))) none).run Try.prog W = .ok (.slice (some ⟨g, 0, none⟩) (dn + 160) (dn + 160)) W := fun W => by
          have := cut_to W (some ⟨g, 0, none⟩) dn (dn + 160) (dn + 160) (Nat.le_refl _)
          simpa using this
        go_wp2_with (fail)
        clear hct
        go_loopw [10] (fun x wq => ∃ (j : Nat) (cur : Array Value), j ≤ dn + 160 ∧ x = .int .i64 j ∧ Hid (wq.heap[g]? = some (.cells cur 5 (0, 0)) ∧ cur.size = dn + 160 ∧ Kept [g] w8 wq)) (fun x wq => dn + 160 - (intOf x).toNat)
        case atStart => exact ⟨0, _, Nat.zero_le _, rfl, HR8.out, by simp [bys_length, marks, hdl], Kept.refl _ _⟩
        case round =>
          clear HR8
          obtain ⟨j, cur, hj, rfl, HQ⟩ := hrel
          by_cases hjl : j < dn + 160
          · have hcs := HQ.out.2.1
            have hcg : ∃ u, wr.cell? ⟨g, j, none⟩ = some u := by
              rw [cell_of_row _ _ _ _ _ _ HQ.out.1]
              exact ⟨_, Array.getElem?_eq_getElem (by omega)⟩
            obtain ⟨u, hcg⟩ := hcg
            have hfz : wr.frozen? ⟨g, j, none⟩ = false := frozen_of_row _ _ _ _ _ HQ.out.1
            have HQ2 : Hid ((wr.setCell ⟨g, j, none⟩ (.int .u8 77)).heap[g]? = some (.cells (cur.setIfInBounds j (.int .u8 77)) 5 (0, 0)) ∧ (cur.setIfInBounds j (.int .u8 77)).size = dn + 160 ∧ Kept [g] w8 (wr.setCell ⟨g, j, none⟩ (.int .u8 77))) := ⟨heap_setCell_same _ _ _ _ _ _ HQ.out.1, by simp [hcs], HQ.out.2.2.setCell (by simp) _⟩
            clear HQ hcs
            go_wp2
            go_roundw
            case rel => exact ⟨j + 1, _, by omega, by go_num, HQ2⟩
            case measure => simp [intOf]; omega
          · have hkq : Kept [HB] w5 wr := HK58.out.trans HQ.out.2.2 (fun q hq hlt => by simp at hq; omega)
            have HA9 := hide (HA8.out.kept HQ.out.2.2 (by simp; exact Ne.symm hgn.1))
            have HTK9 := hide (HDX.out.tk.kept hkq (by simp; omega) (by simp))
            have HK9 := hide (HDX.out.kept.trans hkq (by simp; omega))
            have HX9 := hide (show wr.cell? ⟨Xb, 3, none⟩ = some (.slice da dn dc) from hkq.cellOf (show w5.cell? ⟨Xb, 3, none⟩ = some (.slice da dn dc) by rw [cell_of_row _ _ _ _ _ _ HX.out]; rfl) (by simp; exact hXn.1))
            have HXT := hide (show Xb ∉ [TB] by simp; exact hXn.2)
            have hxl9 : Xb < wr.heap.size := World.block_lt_of_cell? _ _ HX9.out
            have hle9 := HDX.out.le
            have HLE := hide hle9
            clear hkq HQ HA8 HK58 HDX hle9
            go_upto_region 25 with (fail)
            have cT := HTK9.out.cell p hp4
            have HCT := hide cT
            have hTl9 := HTK9.out.lt
            have hHl9 := HA9.out.lt
            clear cT
            refine wp_region_held_drew (S := fun w' => Kept [TB] wr w') (by kernel_rfl) ((Kept.refl [TB] wr).drew) (fun h0 => ?_)
            have hv : Kept [] wr wr.drew := (Kept.refl [] wr).drew
            generalize World.drew wr = v0 at h0 hv ⊢
            refine wpAnyH_take (i := 0) (v := .int .i64 (p : Nat)) rfl (by kernel_rfl) (by kernel_rfl) (by kernel_rfl) (fun _ _ _ h => h) (Or.inl ⟨by rfl, fun w hSw => by go_simp⟩) h0 ?_
            try simp only [List.getElem_toArray, List.getElem_cons_zero, List.getElem_cons_succ, Act.put, List.setIfInBounds_toArray, List.set_cons_zero, List.set_cons_succ]
            refine wpAnyH_take (i := 2) (v := .int .i64 (p : Nat)) rfl (by kernel_rfl) (by kernel_rfl) (by kernel_rfl) (fun _ _ _ h => h) (Or.inl ⟨by rfl, fun w hSw => by go_simp⟩) h0 ?_
            try simp only [List.getElem_toArray, List.getElem_cons_zero, List.getElem_cons_succ, Act.put, List.setIfInBounds_toArray, List.set_cons_zero, List.set_cons_succ]
            refine wpAnyH_take (i := 3) (v := .pointer (some ⟨TB, p, none⟩)) rfl (by kernel_rfl) (by kernel_rfl) (by kernel_rfl) (fun _ _ _ h => h) (Or.inl ⟨by rfl, fun w hSw => by go_simp⟩) h0 ?_
            try simp only [List.getElem_toArray, List.getElem_cons_zero, List.getElem_cons_succ, Act.put, List.setIfInBounds_toArray, List.set_cons_zero, List.set_cons_succ]
            refine wpAnyH_take (i := 6) (v := .pointer (some ⟨Xb, 3, none⟩)) rfl (by kernel_rfl) (by kernel_rfl) (by kernel_rfl) (fun _ _ _ h => h) (Or.inl ⟨by rfl, fun w hSw => by go_simp⟩) h0 ?_
            try simp only [List.getElem_toArray, List.getElem_cons_zero, List.getElem_cons_succ, Act.put, List.setIfInBounds_toArray, List.set_cons_zero, List.set_cons_succ]
            refine wpAnyH_take (i := 7) (v := .slice da dn dc) rfl (by kernel_rfl) (by kernel_rfl) (by kernel_rfl) (fun _ _ _ h => h) (Or.inl ⟨by rfl, fun w hSw => by have c := Kept.cellOf hSw HX9.out HXT.out; go_simp⟩) h0 ?_
            try simp only [List.getElem_toArray, List.getElem_cons_zero, List.getElem_cons_succ, Act.put, List.setIfInBounds_toArray, List.set_cons_zero, List.set_cons_succ]
            refine wpAnyH_ready (rs := [1, 4]) (by kernel_rfl) (by simp) (AllReadyH.cons (i := 1) rfl (fun K hK => ?_) (AllReadyH.cons (i := 4) rfl (fun K hK => ?_) AllReadyH.nil))
            next =>
              rw [if_pos (by rfl)]
              go_simp
              have how := World.ownsRow_made (e := 5) (size := 1) (base := wr.heap.size) v0 #[] 0 hv.size (by decide) rfl
              have hv1 := hv.alloc (.cells #[] 5)
              refine hK.out _ _ (h0.alloc (.cells #[] 5)) (fun h1 => ?_)
              clear hK K h0 hv
              try simp only [List.getElem_toArray, List.getElem_cons_zero, List.getElem_cons_succ, Act.put, List.setIfInBounds_toArray, List.set_cons_zero, List.set_cons_succ]
              generalize World.alloc v0 _ = v1 at h1 how hv1 ⊢
              generalize v0.heap.size = b1 at how ⊢
              have hv := hv1
              refine wpAnyH_ready (rs := [4]) (by kernel_rfl) (by simp) (AllReadyH.cons (i := 4) rfl (fun K hK => ?_) AllReadyH.nil)
              have cT := hv.cellOf HCT.out (by simp)
              rw [if_pos (by rfl)]
              go_simp
              refine hK.out _ _ h1 (fun h2 => ?_)
              clear hK K h1 cT
              try simp only [List.getElem_toArray, List.getElem_cons_zero, List.getElem_cons_succ, Act.put, List.setIfInBounds_toArray, List.set_cons_zero, List.set_cons_succ]
              refine wpAnyH_ready (rs := [5]) (by kernel_rfl) (by simp) (AllReadyH.cons (i := 5) rfl (fun K hK => ?_) AllReadyH.nil)
              obtain ⟨b2, c2, v2, hrun, how2, hg2⟩ := run_append_row v1 wr.heap.size b1 0 0 [] how (ao p) (ms p).length (cp p) (ms p) ((HTK9.out.sl p hp4).kept hv (by simp)) rfl (HTK9.out.nil p hp4) (by omega) hv.size
              have hv2 : Kept [] wr v2 := hv.grown hg2 (by intro q hq hlt; cases hq; have := (how.lt b1 rfl).1; omega)
              rw [Nat.zero_add] at hrun how2
              rw [List.nil_append] at how2
              rw [if_pos (by rfl)]
              refine wp_append_run (.tmp 85) (.tmp 88) 31 rfl _ _ rfl rfl _ _ hrun ?_
              refine hK.out _ _ (hv2.mono (by simp)) (fun h3 => ?_)
              clear hK K h2 hrun how hg2
              try simp only [List.getElem_toArray, List.getElem_cons_zero, List.getElem_cons_succ, Act.put, List.setIfInBounds_toArray, List.set_cons_zero, List.set_cons_succ]
              refine wpAnyH_ready (rs := [8]) (by kernel_rfl) (by simp) (AllReadyH.cons (i := 8) rfl (fun K hK => ?_) AllReadyH.nil)
              obtain ⟨b3, c3, v3, hrun, how3, hg3⟩ := run_append_row v2 wr.heap.size b2 (ms p).length c2 (ms p) how2 da dn dc ds (HIN.out.sl.kept (HK9.out.trans hv2 (by simp)) (by simp)) hdl (fun h => HIN.out.nil h) (by omega) hv2.size
              have hv3 : Kept [] wr v3 := hv2.grown hg3 (by intro q hq hlt; cases hq; have := (how2.lt b2 rfl).1; omega)
              rw [if_pos (by rfl)]
              refine wp_append_run (.tmp 89) (.tmp 91) 31 rfl _ _ rfl rfl _ _ hrun ?_
              refine hK.out _ _ (hv3.mono (by simp)) (fun h4 => ?_)
              clear hK K h3 hrun how2 hg3
              try simp only [List.getElem_toArray, List.getElem_cons_zero, List.getElem_cons_succ, Act.put, List.setIfInBounds_toArray, List.set_cons_zero, List.set_cons_succ]
              have cT := hv3.cellOf HCT.out (by simp)
              have fT : v3.frozen? ⟨TB, p, none⟩ = false := (hv3.frozen (p := ⟨TB, p, none⟩) hTl9 (by simp)).trans (HTK9.out.fr p)
              have hb3 := (how3.lt b3 rfl).1
              have hsl3 : Sl v3 (some ⟨b3, 0, none⟩) (ms p ++ ds) := by
                obtain ⟨g', c', e, _, _, _, hs⟩ := own_sl how3 (by intro e; cases e)
                cases e
                exact hs
              have hln3 : (ms p ++ ds).length = (ms p).length + dn := by rw [List.length_append, hdl]
              have HTS := (HTK9.out.kept hv3 (by simp) (by simp)).set (by simp) p hp4 (some ⟨b3, 0, none⟩) c3 (ms p ++ ds) hsl3 (by simp) (fun _ a ha => by cases ha; simp; omega)
              rw [hln3] at HTS
              have hkt : Kept [TB] v3 (v3.setCell ⟨TB, p, none⟩ (.slice (some ⟨b3, 0, none⟩) ((ms p).length + dn) c3)) := (Kept.refl _ _).setCell (by simp) _
              have HDN : Hid (DhRel w (v3.setCell ⟨TB, p, none⟩ (.slice (some ⟨b3, 0, none⟩) ((ms p).length + dn) c3)) HB TB (upd ao p (some ⟨b3, 0, none⟩)) (upd cp p c3) (upd ms p (ms p ++ ds)) (tot L (i + 1))) := ⟨(HA9.out.kept hv3 (by simp)).kept hkt (by simp; omega), HTS, (HK9.out.trans hv3 (by simp)).trans hkt (by simp; omega), hge, fun k hk => by
                have h3 : tot L (i + 1) = tot L i + dn := HTOT.out
                by_cases hkp : k = p
                · rw [hkp, upd_same, hln3]; have := HLE.out p hp4; omega
                · rw [upd_other _ _ _ _ hkp]; exact Nat.le_trans (HLE.out k hk) HTOT2.out⟩
              have hk10 : Kept [TB] wr (v3.setCell ⟨TB, p, none⟩ (.slice (some ⟨b3, 0, none⟩) ((ms p).length + dn) c3)) := (hv3.mono (by simp)).trans hkt (by simp)
              clear HTS hkt hsl3 how3 hv3 hv2 hv
              refine wpAnyH_take (i := 9) (v := .pointer (some ⟨TB, p, none⟩)) rfl (by kernel_rfl) (by kernel_rfl) (by kernel_rfl) (fun _ _ _ h => h) (Or.inl ⟨by rfl, fun w hSw => by go_simp⟩) h4 ?_
              try simp only [List.getElem_toArray, List.getElem_cons_zero, List.getElem_cons_succ, Act.put, List.setIfInBounds_toArray, List.set_cons_zero, List.set_cons_succ]
              refine wpAnyH_ready (rs := [10]) (by kernel_rfl) (by simp) (AllReadyH.cons (i := 10) rfl (fun K hK => ?_) AllReadyH.nil)
              rw [if_pos (by rfl)]
              go_simp
              refine hK.out _ _ hk10 (fun h5 => ?_)
              clear hK K h4 cT fT hk10
              try simp only [List.getElem_toArray, List.getElem_cons_zero, List.getElem_cons_succ, Act.put, List.setIfInBounds_toArray, List.set_cons_zero, List.set_cons_succ]
              refine wpAnyH_done (by kernel_rfl) ?_ _
              clear HTK9 HA9 HK9 HX9 HCT
              go_wp2_with (fail)
              go_roundw
              case rel => exact ⟨i + 1, _, _, _, by omega, by omega, by go_num, HDN⟩
              case measure => simp [intOf]; omega
            next =>
              have cT := hv.cellOf HCT.out (by simp)
              rw [if_pos (by rfl)]
              go_simp
              refine hK.out _ _ h0 (fun h1 => ?_)
              clear hK K h0 cT
              try simp only [List.getElem_toArray, List.getElem_cons_zero, List.getElem_cons_succ, Act.put, List.setIfInBounds_toArray, List.set_cons_zero, List.set_cons_succ]
              refine wpAnyH_ready (rs := [1]) (by kernel_rfl) (by simp) (AllReadyH.cons (i := 1) rfl (fun K hK => ?_) AllReadyH.nil)
              rw [if_pos (by rfl)]
              go_simp
              have how := World.ownsRow_made (e := 5) (size := 1) (base := wr.heap.size) v0 #[] 0 hv.size (by decide) rfl
              have hv1 := hv.alloc (.cells #[] 5)
              refine hK.out _ _ (h1.alloc (.cells #[] 5)) (fun h2 => ?_)
              clear hK K h1 hv
              try simp only [List.getElem_toArray, List.getElem_cons_zero, List.getElem_cons_succ, Act.put, List.setIfInBounds_toArray, List.set_cons_zero, List.set_cons_succ]
              generalize World.alloc v0 _ = v1 at h2 how hv1 ⊢
              generalize v0.heap.size = b1 at how ⊢
              have hv := hv1
              refine wpAnyH_ready (rs := [5]) (by kernel_rfl) (by simp) (AllReadyH.cons (i := 5) rfl (fun K hK => ?_) AllReadyH.nil)
              obtain ⟨b2, c2, v2, hrun, how2, hg2⟩ := run_append_row v1 wr.heap.size b1 0 0 [] how (ao p) (ms p).length (cp p) (ms p) ((HTK9.out.sl p hp4).kept hv (by simp)) rfl (HTK9.out.nil p hp4) (by omega) hv.size
              have hv2 : Kept [] wr v2 := hv.grown hg2 (by intro q hq hlt; cases hq; have := (how.lt b1 rfl).1; omega)
              rw [Nat.zero_add] at hrun how2
              rw [List.nil_append] at how2
              rw [if_pos (by rfl)]
              refine wp_append_run (.tmp 85) (.tmp 88) 31 rfl _ _ rfl rfl _ _ hrun ?_
              refine hK.out _ _ (hv2.mono (by simp)) (fun h3 => ?_)
              clear hK K h2 hrun how hg2
              try simp only [List.getElem_toArray, List.getElem_cons_zero, List.getElem_cons_succ, Act.put, List.setIfInBounds_toArray, List.set_cons_zero, List.set_cons_succ]
              refine wpAnyH_ready (rs := [8]) (by kernel_rfl) (by simp) (AllReadyH.cons (i := 8) rfl (fun K hK => ?_) AllReadyH.nil)
              obtain ⟨b3, c3, v3, hrun, how3, hg3⟩ := run_append_row v2 wr.heap.size b2 (ms p).length c2 (ms p) how2 da dn dc ds (HIN.out.sl.kept (HK9.out.trans hv2 (by simp)) (by simp)) hdl (fun h => HIN.out.nil h) (by omega) hv2.size
              have hv3 : Kept [] wr v3 := hv2.grown hg3 (by intro q hq hlt; cases hq; have := (how2.lt b2 rfl).1; omega)
              rw [if_pos (by rfl)]
              refine wp_append_run (.tmp 89) (.tmp 91) 31 rfl _ _ rfl rfl _ _ hrun ?_
              refine hK.out _ _ (hv3.mono (by simp)) (fun h4 => ?_)
              clear hK K h3 hrun how2 hg3
              try simp only [List.getElem_toArray, List.getElem_cons_zero, List.getElem_cons_succ, Act.put, List.setIfInBounds_toArray, List.set_cons_zero, List.set_cons_succ]
              have cT := hv3.cellOf HCT.out (by simp)
              have fT : v3.frozen? ⟨TB, p, none⟩ = false := (hv3.frozen (p := ⟨TB, p, none⟩) hTl9 (by simp)).trans (HTK9.out.fr p)
              have hb3 := (how3.lt b3 rfl).1
              have hsl3 : Sl v3 (some ⟨b3, 0, none⟩) (ms p ++ ds) := by
                obtain ⟨g', c', e, _, _, _, hs⟩ := own_sl how3 (by intro e; cases e)
                cases e
                exact hs
              have hln3 : (ms p ++ ds).length = (ms p).length + dn := by rw [List.length_append, hdl]
              have HTS := (HTK9.out.kept hv3 (by simp) (by simp)).set (by simp) p hp4 (some ⟨b3, 0, none⟩) c3 (ms p ++ ds) hsl3 (by simp) (fun _ a ha => by cases ha; simp; omega)
              rw [hln3] at HTS
              have hkt : Kept [TB] v3 (v3.setCell ⟨TB, p, none⟩ (.slice (some ⟨b3, 0, none⟩) ((ms p).length + dn) c3)) := (Kept.refl _ _).setCell (by simp) _
              have HDN : Hid (DhRel w (v3.setCell ⟨TB, p, none⟩ (.slice (some ⟨b3, 0, none⟩) ((ms p).length + dn) c3)) HB TB (upd ao p (some ⟨b3, 0, none⟩)) (upd cp p c3) (upd ms p (ms p ++ ds)) (tot L (i + 1))) := ⟨(HA9.out.kept hv3 (by simp)).kept hkt (by simp; omega), HTS, (HK9.out.trans hv3 (by simp)).trans hkt (by simp; omega), hge, fun k hk => by
                have h3 : tot L (i + 1) = tot L i + dn := HTOT.out
                by_cases hkp : k = p
                · rw [hkp, upd_same, hln3]; have := HLE.out p hp4; omega
                · rw [upd_other _ _ _ _ hkp]; exact Nat.le_trans (HLE.out k hk) HTOT2.out⟩
              have hk10 : Kept [TB] wr (v3.setCell ⟨TB, p, none⟩ (.slice (some ⟨b3, 0, none⟩) ((ms p).length + dn) c3)) := (hv3.mono (by simp)).trans hkt (by simp)
              clear HTS hkt hsl3 how3 hv3 hv2 hv
              refine wpAnyH_take (i := 9) (v := .pointer (some ⟨TB, p, none⟩)) rfl (by kernel_rfl) (by kernel_rfl) (by kernel_rfl) (fun _ _ _ h => h) (Or.inl ⟨by rfl, fun w hSw => by go_simp⟩) h4 ?_
              try simp only [List.getElem_toArray, List.getElem_cons_zero, List.getElem_cons_succ, Act.put, List.setIfInBounds_toArray, List.set_cons_zero, List.set_cons_succ]
              refine wpAnyH_ready (rs := [10]) (by kernel_rfl) (by simp) (AllReadyH.cons (i := 10) rfl (fun K hK => ?_) AllReadyH.nil)
              rw [if_pos (by rfl)]
              go_simp
              refine hK.out _ _ hk10 (fun h5 => ?_)
              clear hK K h4 cT fT hk10
              try simp only [List.getElem_toArray, List.getElem_cons_zero, List.getElem_cons_succ, Act.put, List.setIfInBounds_toArray, List.set_cons_zero, List.set_cons_succ]
              refine wpAnyH_done (by kernel_rfl) ?_ _
              clear HTK9 HA9 HK9 HX9 HCT
              go_wp2_with (fail)
              go_roundw
              case rel => exact ⟨i + 1, _, _, _, by omega, by omega, by go_num, HDN⟩
              case measure => simp [intOf]; omega
      by_cases h2 : kind = 2
      · obtain rfl : kind = 2 := h2
        obtain ⟨cs, hseg, hrg⟩ := HDX.out.ha.load p hp4
        obtain ⟨hth, hha, hkk⟩ := HDX.out.ha.store t ht4 cs (ms p) hseg
        have hcl := hseg.len
        have hil : (Try.prog.info? 29).map (·.size) = some cs.length := by rw [hcl]; exact Try.infoHash
        have hin : (Try.prog.info? 29).map (·.size) = some cs.toArray.size := by rw [List.size_toArray, hcl]; exact Try.infoHash
        have hon : cs.toArray.all (·.oneCell') = true := all_oneCell_toArray hseg.one
        have HHA := hide hha
        have HKK := hide hkk
        clear hha hkk hseg hcl
        go_upto_region 28 with (first | refine wpList_load_mid rfl 29 (.tmp 98) rfl HB (p * 73) rfl _ _ hrg Try.underlying29 rfl hil ?_ | refine wpList_store_mid rfl 29 (.tmp 100) (.tmp 99) rfl HB (t * 73) cs.toArray rfl rfl hth hin hon ?_)
        have HTK := hide (HDX.out.tk.kept HKK.out (by simp; omega) (by simp))
        have HK6 := hide (HDX.out.kept.trans HKK.out (by simp; omega))
        clear hth hin hon hil hrg
        generalize w5.setCells _ _ _ = w6 at HHA HKK HTK HK6 ⊢
        have cT := HTK.out.cell p hp4
        have cT2 := HTK.out.cell t ht4
        have fT := HTK.out.fr t
        have hkt : Kept [TB] w6 (w6.setCell ⟨TB, t, none⟩ (.slice (ao p) (ms p).length (cp p))) := (Kept.refl _ _).setCell (by simp) _
        have HTS := hide (show Tk (w6.setCell ⟨TB, t, none⟩ (.slice (ao p) (ms p).length (cp p))) TB (upd ao t (ao p)) (upd cp t (cp p)) (upd ms t (ms p)) [HB, TB] from HTK.out.set (by simp) t ht4 (ao p) (cp p) (ms p) (HTK.out.sl p hp4) (HTK.out.nil p hp4) (HTK.out.far p hp4))
        have HDN : Hid (DhRel w (w6.setCell ⟨TB, t, none⟩ (.slice (ao p) (ms p).length (cp p))) HB TB (upd ao t (ao p)) (upd cp t (cp p)) (upd ms t (ms p)) (tot L (i + 1))) := ⟨HHA.out.kept hkt (by simp; omega), HTS.out, HK6.out.trans hkt (by simp; omega), hge, fun k hk => by
          by_cases hkp : k = t
          · rw [hkp, upd_same]; exact Nat.le_trans (HDX.out.le p hp4) HTOT2.out
          · rw [upd_other _ _ _ _ hkp]; exact Nat.le_trans (HDX.out.le k hk) HTOT2.out⟩
        clear HTS HTK HHA HKK HK6 hkt HDX
        go_wp2_with (fail)
        go_roundw
        case rel => exact ⟨i + 1, _, _, _, by omega, by omega, by go_num, HDN⟩
        case measure => simp [intOf]; omega
      by_cases h3 : kind = 3
      · obtain rfl : kind = 3 := h3
        obtain ⟨hth, hha, hkk⟩ := HDX.out.ha.store p hp4 zeroH.toList [] SegOk.zero
        have hin : (Try.prog.info? 29).map (·.size) = some zeroH.size := Try.infoHash
        have hon : zeroH.all (·.oneCell') = true := by have := all_oneCell_toArray SegOk.zero.one; simpa using this
        have HHA := hide hha
        have HKK := hide hkk
        have hth' : w5.there HB (p * 73) zeroH.size := by simpa using hth
        clear hth hha hkk
        go_upto_region 31 with (refine wpList_store_mid rfl 29 (.tmp 110) (.tmp 109) rfl HB (p * 73) zeroH rfl rfl hth' hin hon ?_)
        have HTK := hide (HDX.out.tk.kept HKK.out (by simp; omega) (by simp))
        have HK6 := hide (HDX.out.kept.trans HKK.out (by simp; omega))
        clear hth' hin hon
        generalize w5.setCells _ _ _ = w6 at HHA HKK HTK HK6 ⊢
        have cT := HTK.out.cell p hp4
        have fT := HTK.out.fr p
        have hkt : Kept [TB] w6 (w6.setCell ⟨TB, p, none⟩ (.slice none 0 0)) := (Kept.refl _ _).setCell (by simp) _
        have HTS := hide (show Tk (w6.setCell ⟨TB, p, none⟩ (.slice none 0 0)) TB (upd ao p none) (upd cp p 0) (upd ms p []) [HB, TB] from HTK.out.set (by simp) p hp4 none 0 [] (Sl.nil _ _) (fun _ => ⟨rfl, rfl⟩) (fun h => absurd rfl h))
        have HDN : Hid (DhRel w (w6.setCell ⟨TB, p, none⟩ (.slice none 0 0)) HB TB (upd ao p none) (upd cp p 0) (upd ms p []) (tot L (i + 1))) := ⟨HHA.out.kept hkt (by simp; omega), HTS.out, HK6.out.trans hkt (by simp; omega), hge, fun k hk => by
          by_cases hkp : k = p
          · rw [hkp, upd_same]; simp
          · rw [upd_other _ _ _ _ hkp]; exact Nat.le_trans (HDX.out.le k hk) HTOT2.out⟩
        clear HTS HTK HHA HKK HK6 hkt HDX
        go_wp2_with (fail)
        go_roundw
        case rel => exact ⟨i + 1, _, _, _, by omega, by omega, by go_num, HDN⟩
        case measure => simp [intOf]; omega
      · have gk1 : (kind == 1) = false := by simpa using h1
        have gk2 : (kind == 2) = false := by simpa using h2
        have gk3 : (kind == 3) = false := by simpa using h3
        have hp4I : (p : Int) < 4 := by omega
        have HFX := hide (HDX.out.tk.cell p hp4)
        have cT := HFX.out
        have hmsl : (ms p).length ≤ 1048576 := by have h1 := HDX.out.le p hp4; have h2 := HTL.out; have h3 := HTOT2.out; omega
        obtain ⟨F0, hF⟩ : ∃ F, F = Sha.full (ms p) := ⟨_, rfl⟩
        have lF : F0.length = 32 := by rw [hF]; exact Sha.full_len _
        have CRF := hide (rfull_any (ao p) (cp p) (ms p) w5 (ms p).length rfl (by omega) (HDX.out.tk.sl p hp4) (fun h => HDX.out.tk.nil p hp4 h))
        obtain ⟨pre, post, hpl, hhs, _⟩ := HDX.out.ha.get p hp4
        have HHS := hide hhs
        have CS := hide (show ∀ Wx, Kept [] w5 Wx → Calls Try.prog 11 #[.pointer (some ⟨HB, p * 73, none⟩)] Wx fun e w' => e = .returned (.agg (bys F0).toArray) ∧ Kept [] Wx w' from fun Wx h => by
          have := sum_ok (some ⟨HB, pre.length, none⟩) (ms p) Wx (.inr ⟨HB, _, pre, post, rfl, HHS.out.kept h (by simp)⟩) (by omega)
          rw [hpl, ← hF] at this
          exact this.mono fun e w' ⟨he, hb⟩ => ⟨he, Kept.of_below hb⟩)
        rw [← hF] at CRF
        clear hF hhs hpl
        have iF := Try.info32b F0 lF
        have zF := zero_size F0 lF
        have oF := bys_all F0
        go_wp2_with (fail)
        refine CRF.out.mono ?_
        rintro e v5 ⟨rfl, hb5⟩
        have HK5 := hide (Kept.of_below hb5)
        clear hb5 cT
        go_wp2_with (refine wpList_store_rowTo rfl 39 (.tmp 11) (.tmp 43) rfl rfl v5.heap.size (bys F0).toArray rfl rfl 39 zero32 (heap_alloc_new _ _) iF zF oF ?_)
        have hl5 := laid_new (Below.refl v5.heap.size v5) (Nat.le_refl _) zero32 (bys F0).toArray 39
        obtain ⟨Fb, hFb⟩ : ∃ Z, Z = v5.heap.size := ⟨_, rfl⟩
        rw [← hFb] at hl5 ⊢
        generalize (v5.alloc _).setRow _ _ = v6 at hl5 ⊢
        obtain ⟨hF6, hB6⟩ := hl5
        rw [hFb] at hB6
        have hk46 : Kept [] w5 v6 := HK5.out.trans (Kept.of_below hB6) (by simp)
        have HK6 := hide hk46
        have rF : Hid (v6.rangeAt Fb 0 (bys F0)) := range_row' hF6
        clear hF6 hB6 hFb HK5 iF zF oF hk46
        have u39 := Try.underlying39
        have iF' : (Try.prog.info? 39).map (·.size) = some (bys F0).length := Try.info32b F0 lF
        have qF : ∀ W, (Op.equalIn 10000 39 (.agg (bys F0).toArray) (.agg (bys F0).toArray)).run Try.prog W = .ok true W := fun W => by rw [Try.eql32 F0 F0 lF lF W, decide_eq_true rfl]
        have g1 : Try.prog.eqGuardType Try.prog.depth 39 = false := by kernel_rfl
        go_upto_region 13 with (fail)
        refine wp_region_held_drew (S := fun w' => Kept [] v6 w') (by kernel_rfl) ((Kept.refl [] v6).drew) (fun h0 => ?_)
        generalize World.drew v6 = v0 at h0 ⊢
        refine wpAnyH_take (i := 0) (v := .int .i64 (p : Nat)) rfl (by kernel_rfl) (by kernel_rfl) (by kernel_rfl) (fun _ _ _ h => h) (Or.inl ⟨by rfl, fun w hSw => by go_simp⟩) h0 ?_
        try simp only [List.getElem_toArray, List.getElem_cons_zero, List.getElem_cons_succ, Act.put, List.setIfInBounds_toArray, List.set_cons_zero, List.set_cons_succ]
        refine wpAnyH_take (i := 1) (v := .pointer (some ⟨HB, p * 73, none⟩)) rfl (by kernel_rfl) (by kernel_rfl) (by kernel_rfl) (fun _ _ _ h => h) (Or.inl ⟨by rfl, fun w hSw => by go_simp⟩) h0 ?_
        try simp only [List.getElem_toArray, List.getElem_cons_zero, List.getElem_cons_succ, Act.put, List.setIfInBounds_toArray, List.set_cons_zero, List.set_cons_succ]
        refine wpAnyH_take (i := 3) rfl (by kernel_rfl) (by kernel_rfl) (by kernel_rfl) (fun _ _ _ h => h) (yieldsIf_load_mid (by rfl) _ _ rfl _ _ rfl _ _ (fun w h => range_kept rF.out h) u39 rfl iF') h0 ?_
        try simp only [List.getElem_toArray, List.getElem_cons_zero, List.getElem_cons_succ, Act.put, List.setIfInBounds_toArray, List.set_cons_zero, List.set_cons_succ]
        refine wpAnyH_ready (rs := [2]) (by kernel_rfl) (by simp) (AllReadyH.cons (i := 2) rfl (fun K hK => ?_) AllReadyH.nil)
        rw [if_pos (by rfl)]
        go_simp
        refine (CS.out _ (HK6.out.trans h0 (by simp))).mono ?_
        rintro e v1 ⟨rfl, hq⟩
        refine hK.out _ _ (h0.trans hq (by simp)) (fun h1 => ?_)
        clear hK K hq h0
        try simp only [List.getElem_toArray, List.getElem_cons_zero, List.getElem_cons_succ, Act.put, List.setIfInBounds_toArray, List.set_cons_zero, List.set_cons_succ]
        refine wpAnyH_take (i := 4) (v := .bool false) rfl (by kernel_rfl) (by kernel_rfl) (by kernel_rfl) (fun _ _ _ h => h) (Or.inl ⟨by rfl, fun w hSw => by go_simp⟩) h1 ?_
        try simp only [List.getElem_toArray, List.getElem_cons_zero, List.getElem_cons_succ, Act.put, List.setIfInBounds_toArray, List.set_cons_zero, List.set_cons_succ]
        refine wpAnyH_take (i := 5) (v := .bool false) rfl (by kernel_rfl) (by kernel_rfl) (by kernel_rfl) (fun _ _ _ h => h) (Or.inl ⟨by rfl, fun w hSw => by go_simp⟩) h1 ?_
        try simp only [List.getElem_toArray, List.getElem_cons_zero, List.getElem_cons_succ, Act.put, List.setIfInBounds_toArray, List.set_cons_zero, List.set_cons_succ]
        refine wpAnyH_take (i := 6) (v := .int .i64 (p : Nat)) rfl (by kernel_rfl) (by kernel_rfl) (by kernel_rfl) (fun _ _ _ h => h) (Or.inl ⟨by rfl, fun w hSw => by go_simp⟩) h1 ?_
        try simp only [List.getElem_toArray, List.getElem_cons_zero, List.getElem_cons_succ, Act.put, List.setIfInBounds_toArray, List.set_cons_zero, List.set_cons_succ]
        refine wpAnyH_take (i := 7) (v := .pointer (some ⟨HB, p * 73, none⟩)) rfl (by kernel_rfl) (by kernel_rfl) (by kernel_rfl) (fun _ _ _ h => h) (Or.inl ⟨by rfl, fun w hSw => by go_simp⟩) h1 ?_
        try simp only [List.getElem_toArray, List.getElem_cons_zero, List.getElem_cons_succ, Act.put, List.setIfInBounds_toArray, List.set_cons_zero, List.set_cons_succ]
        refine wpAnyH_take (i := 9) rfl (by kernel_rfl) (by kernel_rfl) (by kernel_rfl) (fun _ _ _ h => h) (yieldsIf_load_mid (by rfl) _ _ rfl _ _ rfl _ _ (fun w h => range_kept rF.out h) u39 rfl iF') h1 ?_
        try simp only [List.getElem_toArray, List.getElem_cons_zero, List.getElem_cons_succ, Act.put, List.setIfInBounds_toArray, List.set_cons_zero, List.set_cons_succ]
        refine wpAnyH_ready (rs := [8]) (by kernel_rfl) (by simp) (AllReadyH.cons (i := 8) rfl (fun K hK => ?_) AllReadyH.nil)
        rw [if_pos (by rfl)]
        go_simp
        refine (CS.out _ (HK6.out.trans h1 (by simp))).mono ?_
        rintro e v2 ⟨rfl, hq⟩
        refine hK.out _ _ (h1.trans hq (by simp)) (fun h2 => ?_)
        clear hK K hq h1
        try simp only [List.getElem_toArray, List.getElem_cons_zero, List.getElem_cons_succ, Act.put, List.setIfInBounds_toArray, List.set_cons_zero, List.set_cons_succ]
        refine wpAnyH_take (i := 10) (v := .bool false) rfl (by kernel_rfl) (by kernel_rfl) (by kernel_rfl) (fun _ _ _ h => h) (Or.inl ⟨by rfl, fun w hSw => by go_simp⟩) h2 ?_
        try simp only [List.getElem_toArray, List.getElem_cons_zero, List.getElem_cons_succ, Act.put, List.setIfInBounds_toArray, List.set_cons_zero, List.set_cons_succ]
        refine wpAnyH_take (i := 11) (v := .bool false) rfl (by kernel_rfl) (by kernel_rfl) (by kernel_rfl) (fun _ _ _ h => h) (Or.inl ⟨by rfl, fun w hSw => by go_simp⟩) h2 ?_
        try simp only [List.getElem_toArray, List.getElem_cons_zero, List.getElem_cons_succ, Act.put, List.setIfInBounds_toArray, List.set_cons_zero, List.set_cons_succ]
        refine wpAnyH_done (by kernel_rfl) ?_ _
        have hkz : Kept [] w5 v2 := HK6.out.trans h2 (by simp)
        have HKZ := hide hkz
        clear hkz h2 CS rF HK6 CRF HHS qF
        have HDN := hide (show DhRel w v2 HB TB ao cp ms (tot L (i + 1)) from ⟨HDX.out.ha.kept HKZ.out (by simp), HDX.out.tk.kept HKZ.out (by simp) (by simp), HDX.out.kept.trans HKZ.out (by simp), hge, fun k hk => Nat.le_trans (HDX.out.le k hk) HTOT2.out⟩)
        clear HKZ HDX
        go_wp2_with (fail)
        go_roundw
        case rel => exact ⟨i + 1, _, _, _, by omega, by omega, by go_num, HDN⟩
        case measure => simp [intOf]; omega
    · by_cases hex : i < m
      · have hex2 : ¬ i < 60 := by omega
        have HTL := hide (Nat.le_trans (tot_le L i) HSUM.out)
        have HTOT2 := hide (Nat.le_refl (tot L i))
        go_wp2_with (fail)
        go_loopw [12] (fun x wq => ∃ k : Nat, k ≤ 4 ∧ x = .int .i64 k ∧ Hid (DhRel w wq HB TB ao cp ms (tot L i))) (fun x wq => 4 - (intOf x).toNat)
        case atStart => exact ⟨0, by omega, rfl, HD⟩
        case round =>
          clear HD
          obtain ⟨k, hk4, rfl, HDX⟩ := hrel
          by_cases hp4 : k < 4
          · have hp4I : (k : Int) < 4 := by omega
            have HFX := hide (HDX.out.tk.cell k hp4)
            have cT := HFX.out
            have hmsl : (ms k).length ≤ 1048576 := by have h1 := HDX.out.le k hp4; have h2 := HTL.out; have h3 := HTOT2.out; omega
            obtain ⟨F0, hF⟩ : ∃ F, F = Sha.full (ms k) := ⟨_, rfl⟩
            have lF : F0.length = 32 := by rw [hF]; exact Sha.full_len _
            have CRF := hide (rfull_any (ao k) (cp k) (ms k) wr (ms k).length rfl (by omega) (HDX.out.tk.sl k hp4) (fun h => HDX.out.tk.nil k hp4 h))
            obtain ⟨pre, post, hpl, hhs, _⟩ := HDX.out.ha.get k hp4
            have HHS := hide hhs
            have CS := hide (show ∀ Wx, Kept [] wr Wx → Calls Try.prog 11 #[.pointer (some ⟨HB, k * 73, none⟩)] Wx fun e w' => e = .returned (.agg (bys F0).toArray) ∧ Kept [] Wx w' from fun Wx h => by
              have := sum_ok (some ⟨HB, pre.length, none⟩) (ms k) Wx (.inr ⟨HB, _, pre, post, rfl, HHS.out.kept h (by simp)⟩) (by omega)
              rw [hpl, ← hF] at this
              exact this.mono fun e w' ⟨he, hb⟩ => ⟨he, Kept.of_below hb⟩)
            rw [← hF] at CRF
            clear hF hhs hpl
            have iF := Try.info32b F0 lF
            have zF := zero_size F0 lF
            have oF := bys_all F0
            go_wp2_with (fail)
            refine CRF.out.mono ?_
            rintro e v5 ⟨rfl, hb5⟩
            have HK5 := hide (Kept.of_below hb5)
            clear hb5 cT
            go_wp2_with (refine wpList_store_rowTo rfl 39 (.tmp 13) (.tmp 120) rfl rfl v5.heap.size (bys F0).toArray rfl rfl 39 zero32 (heap_alloc_new _ _) iF zF oF ?_)
            have hl5 := laid_new (Below.refl v5.heap.size v5) (Nat.le_refl _) zero32 (bys F0).toArray 39
            obtain ⟨Fb, hFb⟩ : ∃ Z, Z = v5.heap.size := ⟨_, rfl⟩
            rw [← hFb] at hl5 ⊢
            generalize (v5.alloc _).setRow _ _ = v6 at hl5 ⊢
            obtain ⟨hF6, hB6⟩ := hl5
            rw [hFb] at hB6
            have hk46 : Kept [] wr v6 := HK5.out.trans (Kept.of_below hB6) (by simp)
            have HK6 := hide hk46
            have rF : Hid (v6.rangeAt Fb 0 (bys F0)) := range_row' hF6
            clear hF6 hB6 hFb HK5 iF zF oF hk46
            have u39 := Try.underlying39
            have iF' : (Try.prog.info? 39).map (·.size) = some (bys F0).length := Try.info32b F0 lF
            have qF : ∀ W, (Op.equalIn 10000 39 (.agg (bys F0).toArray) (.agg (bys F0).toArray)).run Try.prog W = .ok true W := fun W => by rw [Try.eql32 F0 F0 lF lF W, decide_eq_true rfl]
            have g1 : Try.prog.eqGuardType Try.prog.depth 39 = false := by kernel_rfl
            go_upto_region 36 with (fail)
            refine wp_region_held_drew (S := fun w' => Kept [] v6 w') (by kernel_rfl) ((Kept.refl [] v6).drew) (fun h0 => ?_)
            generalize World.drew v6 = v0 at h0 ⊢
            refine wpAnyH_take (i := 0) (v := .int .i64 (k : Nat)) rfl (by kernel_rfl) (by kernel_rfl) (by kernel_rfl) (fun _ _ _ h => h) (Or.inl ⟨by rfl, fun w hSw => by go_simp⟩) h0 ?_
            try simp only [List.getElem_toArray, List.getElem_cons_zero, List.getElem_cons_succ, Act.put, List.setIfInBounds_toArray, List.set_cons_zero, List.set_cons_succ]
            refine wpAnyH_take (i := 1) (v := .pointer (some ⟨HB, k * 73, none⟩)) rfl (by kernel_rfl) (by kernel_rfl) (by kernel_rfl) (fun _ _ _ h => h) (Or.inl ⟨by rfl, fun w hSw => by go_simp⟩) h0 ?_
            try simp only [List.getElem_toArray, List.getElem_cons_zero, List.getElem_cons_succ, Act.put, List.setIfInBounds_toArray, List.set_cons_zero, List.set_cons_succ]
            refine wpAnyH_take (i := 3) rfl (by kernel_rfl) (by kernel_rfl) (by kernel_rfl) (fun _ _ _ h => h) (yieldsIf_load_mid (by rfl) _ _ rfl _ _ rfl _ _ (fun w h => range_kept rF.out h) u39 rfl iF') h0 ?_
            try simp only [List.getElem_toArray, List.getElem_cons_zero, List.getElem_cons_succ, Act.put, List.setIfInBounds_toArray, List.set_cons_zero, List.set_cons_succ]
            refine wpAnyH_ready (rs := [2]) (by kernel_rfl) (by simp) (AllReadyH.cons (i := 2) rfl (fun K hK => ?_) AllReadyH.nil)
            rw [if_pos (by rfl)]
            go_simp
            refine (CS.out _ (HK6.out.trans h0 (by simp))).mono ?_
            rintro e v1 ⟨rfl, hq⟩
            refine hK.out _ _ (h0.trans hq (by simp)) (fun h1 => ?_)
            clear hK K hq h0
            try simp only [List.getElem_toArray, List.getElem_cons_zero, List.getElem_cons_succ, Act.put, List.setIfInBounds_toArray, List.set_cons_zero, List.set_cons_succ]
            refine wpAnyH_take (i := 4) (v := .bool false) rfl (by kernel_rfl) (by kernel_rfl) (by kernel_rfl) (fun _ _ _ h => h) (Or.inl ⟨by rfl, fun w hSw => by go_simp⟩) h1 ?_
            try simp only [List.getElem_toArray, List.getElem_cons_zero, List.getElem_cons_succ, Act.put, List.setIfInBounds_toArray, List.set_cons_zero, List.set_cons_succ]
            refine wpAnyH_take (i := 5) (v := .bool false) rfl (by kernel_rfl) (by kernel_rfl) (by kernel_rfl) (fun _ _ _ h => h) (Or.inl ⟨by rfl, fun w hSw => by go_simp⟩) h1 ?_
            try simp only [List.getElem_toArray, List.getElem_cons_zero, List.getElem_cons_succ, Act.put, List.setIfInBounds_toArray, List.set_cons_zero, List.set_cons_succ]
            refine wpAnyH_take (i := 6) (v := .int .i64 (k : Nat)) rfl (by kernel_rfl) (by kernel_rfl) (by kernel_rfl) (fun _ _ _ h => h) (Or.inl ⟨by rfl, fun w hSw => by go_simp⟩) h1 ?_
            try simp only [List.getElem_toArray, List.getElem_cons_zero, List.getElem_cons_succ, Act.put, List.setIfInBounds_toArray, List.set_cons_zero, List.set_cons_succ]
            refine wpAnyH_take (i := 7) (v := .pointer (some ⟨HB, k * 73, none⟩)) rfl (by kernel_rfl) (by kernel_rfl) (by kernel_rfl) (fun _ _ _ h => h) (Or.inl ⟨by rfl, fun w hSw => by go_simp⟩) h1 ?_
            try simp only [List.getElem_toArray, List.getElem_cons_zero, List.getElem_cons_succ, Act.put, List.setIfInBounds_toArray, List.set_cons_zero, List.set_cons_succ]
            refine wpAnyH_take (i := 9) rfl (by kernel_rfl) (by kernel_rfl) (by kernel_rfl) (fun _ _ _ h => h) (yieldsIf_load_mid (by rfl) _ _ rfl _ _ rfl _ _ (fun w h => range_kept rF.out h) u39 rfl iF') h1 ?_
            try simp only [List.getElem_toArray, List.getElem_cons_zero, List.getElem_cons_succ, Act.put, List.setIfInBounds_toArray, List.set_cons_zero, List.set_cons_succ]
            refine wpAnyH_ready (rs := [8]) (by kernel_rfl) (by simp) (AllReadyH.cons (i := 8) rfl (fun K hK => ?_) AllReadyH.nil)
            rw [if_pos (by rfl)]
            go_simp
            refine (CS.out _ (HK6.out.trans h1 (by simp))).mono ?_
            rintro e v2 ⟨rfl, hq⟩
            refine hK.out _ _ (h1.trans hq (by simp)) (fun h2 => ?_)
            clear hK K hq h1
            try simp only [List.getElem_toArray, List.getElem_cons_zero, List.getElem_cons_succ, Act.put, List.setIfInBounds_toArray, List.set_cons_zero, List.set_cons_succ]
            refine wpAnyH_take (i := 10) (v := .bool false) rfl (by kernel_rfl) (by kernel_rfl) (by kernel_rfl) (fun _ _ _ h => h) (Or.inl ⟨by rfl, fun w hSw => by go_simp⟩) h2 ?_
            try simp only [List.getElem_toArray, List.getElem_cons_zero, List.getElem_cons_succ, Act.put, List.setIfInBounds_toArray, List.set_cons_zero, List.set_cons_succ]
            refine wpAnyH_take (i := 11) (v := .bool false) rfl (by kernel_rfl) (by kernel_rfl) (by kernel_rfl) (fun _ _ _ h => h) (Or.inl ⟨by rfl, fun w hSw => by go_simp⟩) h2 ?_
            try simp only [List.getElem_toArray, List.getElem_cons_zero, List.getElem_cons_succ, Act.put, List.setIfInBounds_toArray, List.set_cons_zero, List.set_cons_succ]
            refine wpAnyH_done (by kernel_rfl) ?_ _
            have hkz : Kept [] wr v2 := HK6.out.trans h2 (by simp)
            have HKZ := hide hkz
            clear hkz h2 CS rF HK6 CRF HHS qF
            have HDN := hide (show DhRel w v2 HB TB ao cp ms (tot L i) from ⟨HDX.out.ha.kept HKZ.out (by simp), HDX.out.tk.kept HKZ.out (by simp) (by simp), HDX.out.kept.trans HKZ.out (by simp), hge, HDX.out.le⟩)
            clear HKZ HDX
            go_wp2_with (fail)
            go_roundw
            case rel => exact ⟨k + 1, by omega, by go_num, HDN⟩
            case measure => simp [intOf]; omega
          · have hK := HDX.out.kept
            clear HDX
            go_wp2_with (fail)
            go_ret
            exact ⟨rfl, hK.below (Nat.le_refl _) (by simp)⟩
      · have HTL := hide (Nat.le_trans (tot_le L i) HSUM.out)
        have HTOT2 := hide (Nat.le_refl (tot L i))
        go_wp2_with (fail)
        go_loopw [12] (fun x wq => ∃ k : Nat, k ≤ 4 ∧ x = .int .i64 k ∧ Hid (DhRel w wq HB TB ao cp ms (tot L i))) (fun x wq => 4 - (intOf x).toNat)
        case atStart => exact ⟨0, by omega, rfl, HD⟩
        case round =>
          clear HD
          obtain ⟨k, hk4, rfl, HDX⟩ := hrel
          by_cases hp4 : k < 4
          · have hp4I : (k : Int) < 4 := by omega
            have HFX := hide (HDX.out.tk.cell k hp4)
            have cT := HFX.out
            have hmsl : (ms k).length ≤ 1048576 := by have h1 := HDX.out.le k hp4; have h2 := HTL.out; have h3 := HTOT2.out; omega
            obtain ⟨F0, hF⟩ : ∃ F, F = Sha.full (ms k) := ⟨_, rfl⟩
            have lF : F0.length = 32 := by rw [hF]; exact Sha.full_len _
            have CRF := hide (rfull_any (ao k) (cp k) (ms k) wr (ms k).length rfl (by omega) (HDX.out.tk.sl k hp4) (fun h => HDX.out.tk.nil k hp4 h))
            obtain ⟨pre, post, hpl, hhs, _⟩ := HDX.out.ha.get k hp4
            have HHS := hide hhs
            have CS := hide (show ∀ Wx, Kept [] wr Wx → Calls Try.prog 11 #[.pointer (some ⟨HB, k * 73, none⟩)] Wx fun e w' => e = .returned (.agg (bys F0).toArray) ∧ Kept [] Wx w' from fun Wx h => by
              have := sum_ok (some ⟨HB, pre.length, none⟩) (ms k) Wx (.inr ⟨HB, _, pre, post, rfl, HHS.out.kept h (by simp)⟩) (by omega)
              rw [hpl, ← hF] at this
              exact this.mono fun e w' ⟨he, hb⟩ => ⟨he, Kept.of_below hb⟩)
            rw [← hF] at CRF
            clear hF hhs hpl
            have iF := Try.info32b F0 lF
            have zF := zero_size F0 lF
            have oF := bys_all F0
            go_wp2_with (fail)
            refine CRF.out.mono ?_
            rintro e v5 ⟨rfl, hb5⟩
            have HK5 := hide (Kept.of_below hb5)
            clear hb5 cT
            go_wp2_with (refine wpList_store_rowTo rfl 39 (.tmp 13) (.tmp 120) rfl rfl v5.heap.size (bys F0).toArray rfl rfl 39 zero32 (heap_alloc_new _ _) iF zF oF ?_)
            have hl5 := laid_new (Below.refl v5.heap.size v5) (Nat.le_refl _) zero32 (bys F0).toArray 39
            obtain ⟨Fb, hFb⟩ : ∃ Z, Z = v5.heap.size := ⟨_, rfl⟩
            rw [← hFb] at hl5 ⊢
            generalize (v5.alloc _).setRow _ _ = v6 at hl5 ⊢
            obtain ⟨hF6, hB6⟩ := hl5
            rw [hFb] at hB6
            have hk46 : Kept [] wr v6 := HK5.out.trans (Kept.of_below hB6) (by simp)
            have HK6 := hide hk46
            have rF : Hid (v6.rangeAt Fb 0 (bys F0)) := range_row' hF6
            clear hF6 hB6 hFb HK5 iF zF oF hk46
            have u39 := Try.underlying39
            have iF' : (Try.prog.info? 39).map (·.size) = some (bys F0).length := Try.info32b F0 lF
            have qF : ∀ W, (Op.equalIn 10000 39 (.agg (bys F0).toArray) (.agg (bys F0).toArray)).run Try.prog W = .ok true W := fun W => by rw [Try.eql32 F0 F0 lF lF W, decide_eq_true rfl]
            have g1 : Try.prog.eqGuardType Try.prog.depth 39 = false := by kernel_rfl
            go_upto_region 36 with (fail)
            refine wp_region_held_drew (S := fun w' => Kept [] v6 w') (by kernel_rfl) ((Kept.refl [] v6).drew) (fun h0 => ?_)
            generalize World.drew v6 = v0 at h0 ⊢
            refine wpAnyH_take (i := 0) (v := .int .i64 (k : Nat)) rfl (by kernel_rfl) (by kernel_rfl) (by kernel_rfl) (fun _ _ _ h => h) (Or.inl ⟨by rfl, fun w hSw => by go_simp⟩) h0 ?_
            try simp only [List.getElem_toArray, List.getElem_cons_zero, List.getElem_cons_succ, Act.put, List.setIfInBounds_toArray, List.set_cons_zero, List.set_cons_succ]
            refine wpAnyH_take (i := 1) (v := .pointer (some ⟨HB, k * 73, none⟩)) rfl (by kernel_rfl) (by kernel_rfl) (by kernel_rfl) (fun _ _ _ h => h) (Or.inl ⟨by rfl, fun w hSw => by go_simp⟩) h0 ?_
            try simp only [List.getElem_toArray, List.getElem_cons_zero, List.getElem_cons_succ, Act.put, List.setIfInBounds_toArray, List.set_cons_zero, List.set_cons_succ]
            refine wpAnyH_take (i := 3) rfl (by kernel_rfl) (by kernel_rfl) (by kernel_rfl) (fun _ _ _ h => h) (yieldsIf_load_mid (by rfl) _ _ rfl _ _ rfl _ _ (fun w h => range_kept rF.out h) u39 rfl iF') h0 ?_
            try simp only [List.getElem_toArray, List.getElem_cons_zero, List.getElem_cons_succ, Act.put, List.setIfInBounds_toArray, List.set_cons_zero, List.set_cons_succ]
            refine wpAnyH_ready (rs := [2]) (by kernel_rfl) (by simp) (AllReadyH.cons (i := 2) rfl (fun K hK => ?_) AllReadyH.nil)
            rw [if_pos (by rfl)]
            go_simp
            refine (CS.out _ (HK6.out.trans h0 (by simp))).mono ?_
            rintro e v1 ⟨rfl, hq⟩
            refine hK.out _ _ (h0.trans hq (by simp)) (fun h1 => ?_)
            clear hK K hq h0
            try simp only [List.getElem_toArray, List.getElem_cons_zero, List.getElem_cons_succ, Act.put, List.setIfInBounds_toArray, List.set_cons_zero, List.set_cons_succ]
            refine wpAnyH_take (i := 4) (v := .bool false) rfl (by kernel_rfl) (by kernel_rfl) (by kernel_rfl) (fun _ _ _ h => h) (Or.inl ⟨by rfl, fun w hSw => by go_simp⟩) h1 ?_
            try simp only [List.getElem_toArray, List.getElem_cons_zero, List.getElem_cons_succ, Act.put, List.setIfInBounds_toArray, List.set_cons_zero, List.set_cons_succ]
            refine wpAnyH_take (i := 5) (v := .bool false) rfl (by kernel_rfl) (by kernel_rfl) (by kernel_rfl) (fun _ _ _ h => h) (Or.inl ⟨by rfl, fun w hSw => by go_simp⟩) h1 ?_
            try simp only [List.getElem_toArray, List.getElem_cons_zero, List.getElem_cons_succ, Act.put, List.setIfInBounds_toArray, List.set_cons_zero, List.set_cons_succ]
            refine wpAnyH_take (i := 6) (v := .int .i64 (k : Nat)) rfl (by kernel_rfl) (by kernel_rfl) (by kernel_rfl) (fun _ _ _ h => h) (Or.inl ⟨by rfl, fun w hSw => by go_simp⟩) h1 ?_
            try simp only [List.getElem_toArray, List.getElem_cons_zero, List.getElem_cons_succ, Act.put, List.setIfInBounds_toArray, List.set_cons_zero, List.set_cons_succ]
            refine wpAnyH_take (i := 7) (v := .pointer (some ⟨HB, k * 73, none⟩)) rfl (by kernel_rfl) (by kernel_rfl) (by kernel_rfl) (fun _ _ _ h => h) (Or.inl ⟨by rfl, fun w hSw => by go_simp⟩) h1 ?_
            try simp only [List.getElem_toArray, List.getElem_cons_zero, List.getElem_cons_succ, Act.put, List.setIfInBounds_toArray, List.set_cons_zero, List.set_cons_succ]
            refine wpAnyH_take (i := 9) rfl (by kernel_rfl) (by kernel_rfl) (by kernel_rfl) (fun _ _ _ h => h) (yieldsIf_load_mid (by rfl) _ _ rfl _ _ rfl _ _ (fun w h => range_kept rF.out h) u39 rfl iF') h1 ?_
            try simp only [List.getElem_toArray, List.getElem_cons_zero, List.getElem_cons_succ, Act.put, List.setIfInBounds_toArray, List.set_cons_zero, List.set_cons_succ]
            refine wpAnyH_ready (rs := [8]) (by kernel_rfl) (by simp) (AllReadyH.cons (i := 8) rfl (fun K hK => ?_) AllReadyH.nil)
            rw [if_pos (by rfl)]
            go_simp
            refine (CS.out _ (HK6.out.trans h1 (by simp))).mono ?_
            rintro e v2 ⟨rfl, hq⟩
            refine hK.out _ _ (h1.trans hq (by simp)) (fun h2 => ?_)
            clear hK K hq h1
            try simp only [List.getElem_toArray, List.getElem_cons_zero, List.getElem_cons_succ, Act.put, List.setIfInBounds_toArray, List.set_cons_zero, List.set_cons_succ]
            refine wpAnyH_take (i := 10) (v := .bool false) rfl (by kernel_rfl) (by kernel_rfl) (by kernel_rfl) (fun _ _ _ h => h) (Or.inl ⟨by rfl, fun w hSw => by go_simp⟩) h2 ?_
            try simp only [List.getElem_toArray, List.getElem_cons_zero, List.getElem_cons_succ, Act.put, List.setIfInBounds_toArray, List.set_cons_zero, List.set_cons_succ]
            refine wpAnyH_take (i := 11) (v := .bool false) rfl (by kernel_rfl) (by kernel_rfl) (by kernel_rfl) (fun _ _ _ h => h) (Or.inl ⟨by rfl, fun w hSw => by go_simp⟩) h2 ?_
            try simp only [List.getElem_toArray, List.getElem_cons_zero, List.getElem_cons_succ, Act.put, List.setIfInBounds_toArray, List.set_cons_zero, List.set_cons_succ]
            refine wpAnyH_done (by kernel_rfl) ?_ _
            have hkz : Kept [] wr v2 := HK6.out.trans h2 (by simp)
            have HKZ := hide hkz
            clear hkz h2 CS rF HK6 CRF HHS qF
            have HDN := hide (show DhRel w v2 HB TB ao cp ms (tot L i) from ⟨HDX.out.ha.kept HKZ.out (by simp), HDX.out.tk.kept HKZ.out (by simp) (by simp), HDX.out.kept.trans HKZ.out (by simp), hge, HDX.out.le⟩)
            clear HKZ HDX
            go_wp2_with (fail)
            go_roundw
            case rel => exact ⟨k + 1, by omega, by go_num, HDN⟩
            case measure => simp [intOf]; omega
          · have hK := HDX.out.kept
            clear HDX
            go_wp2_with (fail)
            go_ret
            exact ⟨rfl, hK.below (Nat.le_refl _) (by simp)⟩

end Go.Proofs.Ythfbpbibpgblaaa
