/-
  DiskTwo. (Written by tools/rgb.py.)
-/
import Derived.Test.YtmoaaimjgdbelaaGreatRgap
namespace Go.Proofs.YtmoaaimjgdbelaaGreat
open Go.RowKit Dsk
set_option linter.unusedVariables false
set_option linter.unusedSimpArgs false
theorem made_old (h30 : roomE 30 = 0) (v : World) : Calls Tryz.prog 16 #[.int .i64 30] v fun e w' => ∃ P p Y, e = .returned (.tuple #[.pointer (some ⟨P, 0, none⟩), .bool true]) ∧ Kept [] v w' ∧ w'.cell? ⟨P, 0, none⟩ = some (.pointer (some ⟨p, 0, none⟩)) ∧ Y P ∧ (∀ b, b < v.heap.size → Y b) ∧ Ax Y w' w' p (Ds.fresh 30) 0 := (made_ok 30 v (by decide)).mono (by
  rintro e w' ⟨P, rfl, h1, h2⟩
  rcases h2 with h2 | ⟨h2, h3⟩
  · exact absurd h30 h2.1
  · obtain ⟨p, q, D, h4⟩ := h3 (fun b => b < v.heap.size) (fun b hb => hb)
    obtain ⟨Y, hY, ha, _⟩ := h4.one
    exact ⟨P, p, Y, rfl, h1, h4.cell 0 _ rfl, hY P (.inr (.inl rfl)), fun b hb => hY b (.inl hb), ha⟩)
theorem third_old {v v1 v5 : World} {Y : Nat → Prop} {p : Nat} {S : Ds} {N : Nat} (h1 : Kept [] v v1) (hY : ∀ b, b < v.heap.size → Y b) (h : Ax Y v1 v5 p S N) : Kept [] v v5 :=
  kept_of_keep ((Keep.ofNone h1).trans h.old (fun b hn _ hb => hn (hY b hb)))
theorem tmod_even {k : Nat} (h : k % 2 = 0) : (k : Int).tmod 2 = 0 := by rw [Int.tmod_eq_emod_of_nonneg (by omega)]; omega
theorem tmod_odd {k : Nat} (h : ¬ k % 2 = 0) : (k : Int).tmod 2 = 1 := by rw [Int.tmod_eq_emod_of_nonneg (by omega)]; omega

set_option maxHeartbeats 6400000 in
set_option maxRecDepth 100000 in
theorem two_walk (hst : StandsOk) (r r' : Int) (ao : Option Addr) (n cap : Nat) (L : List Stp) (w : World) (hl : L.length = n) (hs : Scr w ao L) (hn : n ≤ 9223372036854775807) (hrw : (Lit.int .i64 r).wf = true) (hrw' : (Lit.int .i64 r').wf = true) :
    Calls Tryz.prog 4 #[.int .i64 r, .int .i64 r', .slice ao n cap] w fun e w' => e = .returned (.bool true) ∧ Kept [] w w' := by
  have hlg := long_any ao n cap L w hl hn hs
  have hmd := fun w1 hk => made_pl r w w1 hk hrw
  have hme := fun w1 => made_ok r' w1 hrw'
  have HS : Hid (Scr w ao L) := hs
  have HL : Hid (L.length = n) := hl
  have HST := hide hst
  clear hs hl hst
  go_enter Tryz.func4, Tryz.ntmps4
  go_upto_region 3 with (go_at_call 7; refine hlg.mono ?_; rintro e w1 ⟨he, hk1⟩; clear hlg; rcases he with rfl | ⟨rfl, hsh⟩)
  · go_ret
    exact ⟨rfl, hk1⟩
  have hmd := hmd w1 hk1
  go_upto_region 4 with (go_at_call 16; refine hmd.mono ?_; rintro e w2 ⟨P, rfl, hk2, hc⟩; clear hmd)
  have hme := hme w2
  go_upto_region 5 with (go_at_call 16; refine hme.mono ?_; rintro e w3 ⟨P', rfl, hk3, hc'⟩; clear hme)
  have hk03 := hk2.trans hk3 (by simp)
  rcases hc with ⟨_, c0⟩ | ⟨_, ⟨p, c0⟩, hP⟩
  · have d0 := hk3.cellOf c0 (by simp)
    clear c0 hc' hk2 hk3
    go_wp2_with (go_at_call 13; refine (known_ok _).mono ?_; rintro e w4 ⟨rfl, hk4⟩)
    go_ret
    exact ⟨rfl, hk03.trans hk4 (by simp)⟩
  have d0 := hk3.cellOf c0 (by simp)
  clear c0
  rcases hc' with ⟨_, c0'⟩ | ⟨_, hP'⟩
  · clear hk2 hk3 hP
    go_wp2_with (go_at_call 13; refine (known_ok _).mono ?_; rintro e w4 ⟨rfl, hk4⟩)
    go_ret
    exact ⟨rfl, hk03.trans hk4 (by simp)⟩
  obtain ⟨p', q', D', hq'⟩ := hP' (fun _ => False) (fun _ h => h.elim)
  have d0' := hq'.cell 0 _ rfl
  have H2 : Hid (Tp w w3 P 0 P' 0) := hide (hP.two hk3 hP')
  have HC : Hid (costs L ≤ 100000) := hide hsh.2
  have hn3 : n ≤ 300 := by rw [← HL.out]; exact hsh.1
  clear hsh hP hk2 hk1 hk3 hk03 hP' hq'
  go_wp2
  clear d0 d0'
  go_loopw [11, 12, 13] (fun i t u wr => ∃ k : Nat, k ≤ n ∧ i = .int .i64 k ∧ Hid (Tp w wr P (costs (L.take k) + 3 * k) P' (costs (L.take k) + 3 * k))) (fun i t u wr => n - (intOf i).toNat)
  case atStart => exact ⟨0, Nat.zero_le _, rfl, by simpa [costs] using H2⟩
  case round =>
    clear H2
    obtain ⟨k, hk, rfl, HA⟩ := hrel
    by_cases hlt : k < n
    · have hkL : k < L.length := by rw [HL.out]; exact hlt
      obtain ⟨b, off, rfl, _, hcs⟩ := HS.out.open (List.length_pos_iff.1 (by omega))
      obtain ⟨hc, hin⟩ := hcs k hkL
      have hcost := cost_at hkL
      have hcc := HC.out
      have hco : (L.getD k stp0).cost = (L.getD k stp0).dn + 8 * (L.getD k stp0).pn := rfl
      have HNX : Hid (∀ v, Tp w v P (costs (L.take k) + 3 * k + (L.getD k stp0).dn + 3) P' (costs (L.take k) + 3 * k) ∨ Tp w v P' (costs (L.take k) + 3 * k + (L.getD k stp0).dn + 3) P (costs (L.take k) + 3 * k) → Tp w v P (costs (L.take (k + 1)) + 3 * (k + 1)) P' (costs (L.take (k + 1)) + 3 * (k + 1))) := hide (fun v hv => by
        rw [stp_snoc L k hkL, costs_snoc]
        rcases hv with hv | hv
        · exact hv.mono (by omega) (by omega)
        · exact hv.swap.mono (by omega) (by omega))
      have hN0 : costs (L.take k) + 3 * k + (L.getD k stp0).dn ≤ 200000 := by omega
      have hp0 : (L.getD k stp0).pn ≤ 1000000 := by omega
      have HSTP : Hid (∀ v A B, Tp w v A (costs (L.take k) + 3 * k) B (costs (L.take k) + 3 * k) → Calls Tryz.prog 15 #[.pointer (some ⟨A, 0, none⟩), .agg (L.getD k stp0).cells.toArray] v fun e w' => e = .returned (.bool true) ∧ Tp w w' A (costs (L.take k) + 3 * k + (L.getD k stp0).dn + 3) B (costs (L.take k) + 3 * k)) := hide (fun v A B hv => tp_step hv (L.getD k stp0) hin (by omega) (by omega) hp0)
      have HCL : Hid (∀ j v, (L.getD k stp0).cells[j]? = some v → w.cell? ⟨b, off + k * 10 + j, none⟩ = some v) := hide (fun j v hj => by have := hc j v hj; rw [Nat.mul_comm 10 k] at this; exact this)
      generalize costs (L.take k) + 3 * k = N at *
      generalize L.getD k stp0 = s at *
      clear hin hcs hc hcost hcc hco hkL hN0 hp0
      by_cases h20 : k < 20
      · have h20i : ((k : Int) < 20) := by omega
        have hthird := made_old (by decide) wr
        have kc := fun (w : World) (C : Array Value) (n c : Nat) => Lib.run_convert_bytes_const (P := Tryz.prog) w 24 5 C n c Tryz.underlying24 Tryz.underlying5
        go_upto_region 12 with (go_at_call 16; refine hthird.mono ?_; rintro e v1 ⟨P3, p3, Y, rfl, hkv, cP, hYP, hYo, hAx⟩; have HX1 := hide hAx; clear hthird hAx)
        have hz : ([113] : By).length ≤ 4611686018427387904 := by decide
        have hcr := create_ax HX1.out (by omega) [113] hz
        have hc0 : ((Ds.fresh 30).create [113]).1 = 0 := by decide
        rw [hc0] at hcr
        clear HX1 hc0
        go_upto_region 14 with (first
          | (go_at_call 17; refine hcr.mono ?_; rintro e v2 ⟨rfl, ha⟩; have HX2 := hide ha; clear ha hcr)
          | (go_at_call 11; refine (num_ok _ _).mono ?_; rintro e w' ⟨rfl, hw⟩; obtain rfl := hw.symm))
        have cP2 := HX2.out.old.cellOf cP (fun hn => hn hYP)
        have hpl := plan_ax HX2.out 1 0 0 (by decide)
        clear HX2
        go_upto_region 15 with (go_at_call 18; refine hpl.mono ?_; rintro e v3 ⟨rfl, ha⟩; have HX3 := hide ha; clear ha hpl)
        have cP3 := HX3.out.old.cellOf cP (fun hn => hn hYP)
        clear cP2
        obtain ⟨v4, hv4⟩ : ∃ v4, v4 = v3.alloc (.cells #[.int .u8 116] 5 (1, 2)) := ⟨_, rfl⟩
        have hk4 : Kept [] v3 v4 := by rw [hv4]; exact (Kept.refl [] v3).alloc _
        have hb4 : v4.heap[v3.heap.size]? = some (.cells #[.int .u8 116] 5 (1, 2)) := by rw [hv4]; exact (MapKept.heap_alloc v3 _).1
        have hap := fun c => append_ax HX3.out hk4 (ao := some ⟨v3.heap.size, 0, none⟩) (n := 1) (c := c) (d := [116]) (by omega) [113] hz rfl (Sl.of fun i hi => by obtain rfl : i = 0 := (by simpa using hi); rw [cell_of_row v4 _ 0 _ _ _ hb4]; rfl) (fun e => by cases e) (fun _ a ha => by cases ha; exact .inl (Nat.le_refl _))
        clear hb4 HX3
        go_upto_region 16 with (rw [← hv4]; go_at_call 19; refine (hap _).mono ?_; rintro e v5 ⟨rfl, ha⟩; have HX5 := hide ha; clear ha hap hv4 hk4)
        have HB := hide (HA.out.kept (third_old hkv hYo HX5.out))
        clear HA HX5 cP3 cP hkv hYo hYP hz kc
        have hkx : Kept [] w v5 := HB.out.1
        have c0 := hkx.cellOf (HCL.out 0 _ rfl) (by simp)
        have c1 := hkx.cellOf (HCL.out 1 _ rfl) (by simp)
        have c2 := hkx.cellOf (HCL.out 2 _ rfl) (by simp)
        have c3 := hkx.cellOf (HCL.out 3 _ rfl) (by simp)
        have c4 := hkx.cellOf (HCL.out 4 _ rfl) (by simp)
        have c5 := hkx.cellOf (HCL.out 5 _ rfl) (by simp)
        have c6 := hkx.cellOf (HCL.out 6 _ rfl) (by simp)
        have c7 := hkx.cellOf (HCL.out 7 _ rfl) (by simp)
        have c8 := hkx.cellOf (HCL.out 8 _ rfl) (by simp)
        have c9 := hkx.cellOf (HCL.out 9 _ rfl) (by simp)
        rw [Nat.add_zero] at c0
        clear hkx
        by_cases hev : k % 2 = 0
        · have htm := tmod_even hev
          have hstp := HSTP.out v5 P P' HB.out
          simp only [Stp.cells] at hstp
          clear hev HB HSTP HCL
          go_wp2_with (go_at_call 15; refine hstp.mono ?_; rintro e w4 ⟨rfl, hp4⟩; have HZ := hide (HNX.out _ (.inl hp4)); clear hstp hp4 HNX c0 c1 c2 c3 c4 c5 c6 c7 c8 c9)
          go_roundw
          case rel => exact ⟨k + 1, by omega, by go_num, HZ⟩
          case measure => simp [intOf]; omega
        · have htm := tmod_odd hev
          have hstp := HSTP.out v5 P' P HB.out.swap
          simp only [Stp.cells] at hstp
          clear hev HB HSTP HCL
          go_wp2_with (go_at_call 15; refine hstp.mono ?_; rintro e w4 ⟨rfl, hp4⟩; have HZ := hide (HNX.out _ (.inr hp4)); clear hstp hp4 HNX c0 c1 c2 c3 c4 c5 c6 c7 c8 c9)
          go_roundw
          case rel => exact ⟨k + 1, by omega, by go_num, HZ⟩
          case measure => simp [intOf]; omega
      · have h20i : ¬ ((k : Int) < 20) := by omega
        go_upto_region 16 with (fail)
        have HB := HA
        clear HA
        have hkx : Kept [] w wr := HB.out.1
        have c0 := hkx.cellOf (HCL.out 0 _ rfl) (by simp)
        have c1 := hkx.cellOf (HCL.out 1 _ rfl) (by simp)
        have c2 := hkx.cellOf (HCL.out 2 _ rfl) (by simp)
        have c3 := hkx.cellOf (HCL.out 3 _ rfl) (by simp)
        have c4 := hkx.cellOf (HCL.out 4 _ rfl) (by simp)
        have c5 := hkx.cellOf (HCL.out 5 _ rfl) (by simp)
        have c6 := hkx.cellOf (HCL.out 6 _ rfl) (by simp)
        have c7 := hkx.cellOf (HCL.out 7 _ rfl) (by simp)
        have c8 := hkx.cellOf (HCL.out 8 _ rfl) (by simp)
        have c9 := hkx.cellOf (HCL.out 9 _ rfl) (by simp)
        rw [Nat.add_zero] at c0
        clear hkx
        by_cases hev : k % 2 = 0
        · have htm := tmod_even hev
          have hstp := HSTP.out wr P P' HB.out
          simp only [Stp.cells] at hstp
          clear hev HB HSTP HCL
          go_wp2_with (go_at_call 15; refine hstp.mono ?_; rintro e w4 ⟨rfl, hp4⟩; have HZ := hide (HNX.out _ (.inl hp4)); clear hstp hp4 HNX c0 c1 c2 c3 c4 c5 c6 c7 c8 c9)
          go_roundw
          case rel => exact ⟨k + 1, by omega, by go_num, HZ⟩
          case measure => simp [intOf]; omega
        · have htm := tmod_odd hev
          have hstp := HSTP.out wr P' P HB.out.swap
          simp only [Stp.cells] at hstp
          clear hev HB HSTP HCL
          go_wp2_with (go_at_call 15; refine hstp.mono ?_; rintro e w4 ⟨rfl, hp4⟩; have HZ := hide (HNX.out _ (.inr hp4)); clear hstp hp4 HNX c0 c1 c2 c3 c4 c5 c6 c7 c8 c9)
          go_roundw
          case rel => exact ⟨k + 1, by omega, by go_num, HZ⟩
          case measure => simp [intOf]; omega
    · have hkn : k = n := by omega
      subst hkn
      have hcc := HC.out
      have hcl : costs (L.take k) ≤ 100000 := by rw [← HL.out, List.take_length]; exact hcc
      have hsd := tp_stands HST.out HA.out (by omega)
      have HB : Hid (costs (L.take k) + 3 * k ≤ 268435456) := hide (by omega)
      clear hcc hcl
      go_wp2_with (first
        | (go_at_call 14; refine hsd.mono ?_; rintro e w5 ⟨rfl, hp5⟩; clear hsd; have hse := tp_stands HST.out hp5.swap HB.out; clear hp5)
        | (go_at_call 14; refine hse.mono ?_; rintro e w6 ⟨rfl, hp6⟩; clear hse; have H5 := hide hp6; clear hp6)
        | (go_at_call 13; refine (known_ok _).mono ?_; rintro e w3 ⟨rfl, hk3⟩; have HK3 := hide hk3; clear hk3))
      go_ret
      exact ⟨rfl, H5.out.1.trans HK3.out (by simp)⟩
end Go.Proofs.YtmoaaimjgdbelaaGreat
