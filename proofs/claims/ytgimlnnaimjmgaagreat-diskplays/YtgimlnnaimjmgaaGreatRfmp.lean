/-
  freightlaw5.only; DiskPlays. (Written by tools/rfm.py.)
-/
import Derived.Test.YtgimlnnaimjmgaaGreatRflp
import Derived.Test.YtgimlnnaimjmgaaGreatIbp
namespace Go.Proofs.YtgimlnnaimjmgaaGreat
open Go.RowKit Dsk
set_option linter.unusedVariables false
set_option linter.unusedSimpArgs false
/-- Pair.stands answers true wherever the pair stands. -/
def StandsOk : Prop := ∀ (X : Nat → Prop) (w : World) (P p q D : Nat) (bo : Option Nat) (R : List UInt8) (S : Ds) (N : Nat), Pq X w P p q D bo R S N S N → N ≤ 268435456 →
  Calls Tryz.prog 14 #[.pointer (some ⟨P, 0, none⟩)] w fun e w' => e = .returned (.bool true) ∧ Kept [] w w'
/-- The pair, in the middle of a script. -/
def Pl (w wr : World) (P N : Nat) : Prop := Kept [] w wr ∧ ∃ p q D bo R S, Pq (fun b => b < w.heap.size) wr P p q D bo R S N S N
theorem kept_of_keep {w wr : World} (h : Keep (fun b => ¬ b < w.heap.size) w wr) : Kept [] w wr := ⟨h.os, h.tape, h.output, h.size, fun k hk _ => h.block k hk (fun hn => hn hk)⟩
theorem Pl.kept {w wr w' : World} {P N : Nat} (h : Pl w wr P N) (hk : Kept [] wr w') : Pl w w' P N := by
  obtain ⟨h1, p, q, D, bo, R, S, h2⟩ := h
  exact ⟨h1.trans hk (by simp), p, q, D, bo, R, S, h2.kept hk⟩
theorem stpX_old {w : World} {s : Stp} (h : StpIn w s) : StpX (fun b => b < w.heap.size) s := by
  refine ⟨fun hd a ha => ?_, fun hp a ha => ?_⟩
  · obtain ⟨b, off, e, hb, _⟩ := h.inb.sl.open hd
    rw [e] at ha
    cases ha
    exact hb
  · obtain ⟨b, off, e, hc⟩ := h.pr 0 (List.length_pos_iff.2 hp)
    rw [e] at ha
    cases ha
    exact World.block_lt_of_cell? _ _ hc
theorem pl_step {w wr : World} {P N : Nat} (h : Pl w wr P N) (s : Stp) (hi : StpIn w s) (hN : N + s.dn ≤ 200000) (hp : s.pn ≤ 1000000) : Calls Tryz.prog 13 #[.pointer (some ⟨P, 0, none⟩), .agg s.cells.toArray] wr fun e w' => e = .returned (.bool true) ∧ Pl w w' P (N + s.dn + 3) := by
  obtain ⟨h1, p, q, D, bo, R, S, h2⟩ := h
  refine (step_ok h2 s (hi.kept h1) (stpX_old hi) (by omega) (by omega) hp).mono ?_
  rintro e w' ⟨rfl, ⟨p', q', bo', R', hq⟩, hk⟩
  refine ⟨rfl, kept_of_keep ((Keep.ofNone h1).trans hk (fun _ h _ => h)), p', q', D, bo', R', _, hq⟩
theorem pl_stands (hst : StandsOk) {w wr : World} {P N : Nat} (h : Pl w wr P N) (hN : N ≤ 268435456) : Calls Tryz.prog 14 #[.pointer (some ⟨P, 0, none⟩)] wr fun e w' => e = .returned (.bool true) ∧ Pl w w' P N := by
  obtain ⟨h1, p, q, D, bo, R, S, h2⟩ := h
  refine (hst _ _ _ _ _ _ _ _ _ _ h2 hN).mono ?_
  rintro e w' ⟨rfl, hk⟩
  exact ⟨rfl, Pl.kept ⟨h1, p, q, D, bo, R, S, h2⟩ hk⟩
theorem made_pl (r : Int) (w w1 : World) (hk : Kept [] w w1) (hr : (Lit.int .i64 r).wf = true) : Calls Tryz.prog 11 #[.int .i64 r] w1 fun e w' => ∃ P, e = .returned (.tuple #[.pointer (some ⟨P, 0, none⟩), .bool true]) ∧ Kept [] w w' ∧
    ((roomE r ≠ 0 ∧ w'.cell? ⟨P, 0, none⟩ = some (.pointer none)) ∨ (roomE r = 0 ∧ (∃ p, w'.cell? ⟨P, 0, none⟩ = some (.pointer (some ⟨p, 0, none⟩))) ∧ Pl w w' P 0)) := (made_ok r w1 hr).mono (by
  rintro e w' ⟨P, rfl, h1, h2⟩
  refine ⟨P, rfl, hk.trans h1 (by simp), ?_⟩
  rcases h2 with h2 | ⟨h2, h3⟩
  · exact .inl h2
  · obtain ⟨p, q, D, h4⟩ := h3 (fun b => b < w.heap.size) (fun b hb => Nat.lt_of_lt_of_le hb hk.size)
    exact .inr ⟨h2, ⟨p, h4.cell 0 _ rfl⟩, hk.trans h1 (by simp), p, q, D, _, _, _, h4⟩)

set_option maxHeartbeats 6400000 in
set_option maxRecDepth 100000 in
theorem only_walk (hst : StandsOk) (r : Int) (ao : Option Addr) (n cap : Nat) (L : List Stp) (lo hi : Int) (w : World) (hl : L.length = n) (hs : Scr w ao L) (hn : n ≤ 9223372036854775807) (hrw : (Lit.int .i64 r).wf = true) :
    Calls Tryz.prog 9 #[.int .i64 r, .slice ao n cap, .int .i64 lo, .int .i64 hi] w fun e w' => e = .returned (.bool true) ∧ Kept [] w w' := by
  have hlg := long_any ao n cap L w hl hn hs
  have hmd := fun w1 hk => made_pl r w w1 hk hrw
  have HS : Hid (Scr w ao L) := hs
  have HL : Hid (L.length = n) := hl
  have HST := hide hst
  clear hs hl hst
  go_enter Tryz.func9, Tryz.ntmps9
  go_upto_region 3 with (go_at_call 10; refine hlg.mono ?_; rintro e w1 ⟨he, hk1⟩; clear hlg; rcases he with rfl | ⟨rfl, hsh⟩)
  · go_ret
    exact ⟨rfl, hk1⟩
  have hmd := hmd w1 hk1
  go_upto_region 4 with (go_at_call 11; refine hmd.mono ?_; rintro e w2 ⟨P, rfl, hk2, hc⟩; clear hmd)
  rcases hc with ⟨_, c0⟩ | ⟨_, ⟨p, c0⟩, hP⟩
  · go_wp2_with (go_at_call 12; refine (known_ok _).mono ?_; rintro e w3 ⟨rfl, hk3⟩)
    go_ret
    exact ⟨rfl, hk2.trans hk3 (by simp)⟩
  have HC : Hid (costs L ≤ 100000) := hide hsh.2
  have hn3 : n ≤ 300 := by rw [← HL.out]; exact hsh.1
  have H2 := hide hP
  clear hsh hP hk2 hk1
  go_wp2
  clear c0
  go_loopw [10, 11] (fun ok i wr => ∃ k : Nat, k ≤ n ∧ i = .int .i64 k ∧ Hid (Pl w wr P (costs (L.take k) + 3 * k)) ∧ ok = .bool true) (fun ok i wr => n - (intOf i).toNat)
  case atStart => exact ⟨0, Nat.zero_le _, rfl, by simpa [costs] using H2, rfl⟩
  case round =>
    clear H2
    obtain ⟨k, hk, rfl, HA, rfl⟩ := hrel
    by_cases hlt : k < n
    · have hkL : k < L.length := by rw [HL.out]; exact hlt
      obtain ⟨b, off, rfl, _, hcs⟩ := HS.out.open (List.length_pos_iff.1 (by omega))
      obtain ⟨hc, hin⟩ := hcs k hkL
      have hkx : Kept [] w wr := HA.out.1
      have hcost := cost_at hkL
      have hcc := HC.out
      have hco : (L.getD k stp0).cost = (L.getD k stp0).dn + 8 * (L.getD k stp0).pn := rfl
      have HNX : Hid (∀ v, Pl w v P (costs (L.take k) + 3 * k + (L.getD k stp0).dn + 3) → Pl w v P (costs (L.take (k + 1)) + 3 * (k + 1))) := hide (fun v hv => by
        rw [stp_snoc L k hkL, costs_snoc]
        obtain ⟨g1, g2, g3, g4, g5, g6, g7, g8⟩ := hv
        exact ⟨g1, g2, g3, g4, g5, g6, g7, g8.mono (by omega) (by omega)⟩)
      have hstp := pl_step HA.out (L.getD k stp0) hin (by omega) (by omega)
      have c0 := hkx.cellOf (hc 0 _ rfl) (by simp)
      have c1 := hkx.cellOf (hc 1 _ rfl) (by simp)
      have c2 := hkx.cellOf (hc 2 _ rfl) (by simp)
      have c3 := hkx.cellOf (hc 3 _ rfl) (by simp)
      have c4 := hkx.cellOf (hc 4 _ rfl) (by simp)
      have c5 := hkx.cellOf (hc 5 _ rfl) (by simp)
      have c6 := hkx.cellOf (hc 6 _ rfl) (by simp)
      have c7 := hkx.cellOf (hc 7 _ rfl) (by simp)
      have c8 := hkx.cellOf (hc 8 _ rfl) (by simp)
      have c9 := hkx.cellOf (hc 9 _ rfl) (by simp)
      have HC0 := hide hc
      rw [Nat.mul_comm 10 k] at c0 c1 c2 c3 c4 c5 c6 c7 c8 c9
      rw [Nat.add_zero] at c0
      have hNb : costs (L.take k) + 3 * k + (L.getD k stp0).dn + 3 ≤ 200000 := by omega
      have hN2 : costs (L.take (k + 1)) + 3 * (k + 1) ≤ 200000 := by rw [stp_snoc L k hkL, costs_snoc]; omega
      generalize hNe : costs (L.take k) + 3 * k = N at *
      generalize L.getD k stp0 = s at *
      simp only [Stp.cells] at hstp
      clear hin hcs hc hcost hcc hco hkL hNe HA HC0 hkx
      go_wp2_with (go_at_call 13; refine hstp.mono ?_; rintro e w4 ⟨rfl, hp4⟩; have HZ := hide (HNX.out _ hp4); clear hstp hp4 HNX c0 c1 c2 c3 c4 c5 c6 c7 c8 c9)
      go_roundw
      case rel => exact ⟨k + 1, by omega, by go_num, HZ, rfl⟩
      case measure => simp [intOf]; omega
    · have hkn : k = n := by omega
      subst hkn
      have hcc := HC.out
      have hcl : costs (L.take k) ≤ 100000 := by rw [← HL.out, List.take_length]; exact hcc
      have hsd := pl_stands HST.out HA.out (by omega)
      clear hcc hcl
      go_wp2_with (first
        | (go_at_call 14; refine hsd.mono ?_; rintro e w5 ⟨rfl, hp5⟩; have H5 := hide hp5; clear hsd hp5)
        | (go_at_call 12; refine (known_ok _).mono ?_; rintro e w3 ⟨rfl, hk3⟩; have HK3 := hide hk3; clear hk3))
      go_ret
      exact ⟨rfl, H5.out.1.trans HK3.out (by simp)⟩

set_option maxHeartbeats 6400000 in
set_option maxRecDepth 100000 in
theorem plays_walk (hst : StandsOk) (r : Int) (ao : Option Addr) (n cap : Nat) (L : List Stp) (w : World) (hl : L.length = n) (hs : Scr w ao L) (hn : n ≤ 9223372036854775807) (hrw : (Lit.int .i64 r).wf = true) :
    Calls Tryz.prog 8 #[.int .i64 r, .slice ao n cap] w fun e w' => e = .returned (.bool true) ∧ Kept [] w w' := by
  have hlg := long_any ao n cap L w hl hn hs
  have hmd := fun w1 hk => made_pl r w w1 hk hrw
  have HS : Hid (Scr w ao L) := hs
  have HL : Hid (L.length = n) := hl
  have HST := hide hst
  clear hs hl hst
  go_enter Tryz.func8, Tryz.ntmps8
  go_upto_region 3 with (go_at_call 10; refine hlg.mono ?_; rintro e w1 ⟨he, hk1⟩; clear hlg; rcases he with rfl | ⟨rfl, hsh⟩)
  · go_ret
    exact ⟨rfl, hk1⟩
  have hmd := hmd w1 hk1
  go_upto_region 4 with (go_at_call 11; refine hmd.mono ?_; rintro e w2 ⟨P, rfl, hk2, hc⟩; clear hmd)
  rcases hc with ⟨_, c0⟩ | ⟨_, ⟨p, c0⟩, hP⟩
  · go_wp2_with (go_at_call 12; refine (known_ok _).mono ?_; rintro e w3 ⟨rfl, hk3⟩)
    go_ret
    exact ⟨rfl, hk2.trans hk3 (by simp)⟩
  have HC : Hid (costs L ≤ 100000) := hide hsh.2
  have hn3 : n ≤ 300 := by rw [← HL.out]; exact hsh.1
  have H2 := hide hP
  clear hsh hP hk2 hk1
  go_wp2
  clear c0
  go_loopw [7] (fun i wr => ∃ k : Nat, k ≤ n ∧ i = .int .i64 k ∧ Hid (Pl w wr P (costs (L.take k) + 3 * k))) (fun i wr => n - (intOf i).toNat)
  case atStart => exact ⟨0, Nat.zero_le _, rfl, by simpa [costs] using H2⟩
  case round =>
    clear H2
    obtain ⟨k, hk, rfl, HA⟩ := hrel
    by_cases hlt : k < n
    · have hkL : k < L.length := by rw [HL.out]; exact hlt
      obtain ⟨b, off, rfl, _, hcs⟩ := HS.out.open (List.length_pos_iff.1 (by omega))
      obtain ⟨hc, hin⟩ := hcs k hkL
      have hkx : Kept [] w wr := HA.out.1
      have hcost := cost_at hkL
      have hcc := HC.out
      have hco : (L.getD k stp0).cost = (L.getD k stp0).dn + 8 * (L.getD k stp0).pn := rfl
      have HNX : Hid (∀ v, Pl w v P (costs (L.take k) + 3 * k + (L.getD k stp0).dn + 3) → Pl w v P (costs (L.take (k + 1)) + 3 * (k + 1))) := hide (fun v hv => by
        rw [stp_snoc L k hkL, costs_snoc]
        obtain ⟨g1, g2, g3, g4, g5, g6, g7, g8⟩ := hv
        exact ⟨g1, g2, g3, g4, g5, g6, g7, g8.mono (by omega) (by omega)⟩)
      have hstp := pl_step HA.out (L.getD k stp0) hin (by omega) (by omega)
      have c0 := hkx.cellOf (hc 0 _ rfl) (by simp)
      have c1 := hkx.cellOf (hc 1 _ rfl) (by simp)
      have c2 := hkx.cellOf (hc 2 _ rfl) (by simp)
      have c3 := hkx.cellOf (hc 3 _ rfl) (by simp)
      have c4 := hkx.cellOf (hc 4 _ rfl) (by simp)
      have c5 := hkx.cellOf (hc 5 _ rfl) (by simp)
      have c6 := hkx.cellOf (hc 6 _ rfl) (by simp)
      have c7 := hkx.cellOf (hc 7 _ rfl) (by simp)
      have c8 := hkx.cellOf (hc 8 _ rfl) (by simp)
      have c9 := hkx.cellOf (hc 9 _ rfl) (by simp)
      have HC0 := hide hc
      rw [Nat.mul_comm 10 k] at c0 c1 c2 c3 c4 c5 c6 c7 c8 c9
      rw [Nat.add_zero] at c0
      have hNb : costs (L.take k) + 3 * k + (L.getD k stp0).dn + 3 ≤ 200000 := by omega
      have hN2 : costs (L.take (k + 1)) + 3 * (k + 1) ≤ 200000 := by rw [stp_snoc L k hkL, costs_snoc]; omega
      generalize hNe : costs (L.take k) + 3 * k = N at *
      generalize L.getD k stp0 = s at *
      simp only [Stp.cells] at hstp
      clear hin hcs hc hcost hcc hco hkL hNe HA HC0 hkx
      go_wp2_with (first
        | (go_at_call 13; refine hstp.mono ?_; rintro e w4 ⟨rfl, hp4⟩; have hsd := pl_stands HST.out (HNX.out _ hp4) (by omega); clear hstp hp4 HNX c0 c1 c2 c3 c4 c5 c6 c7 c8 c9)
        | (go_at_call 14; refine hsd.mono ?_; rintro e w5 ⟨rfl, hp5⟩; have HZ := hide hp5; clear hsd hp5))
      go_roundw
      case rel => exact ⟨k + 1, by omega, by go_num, HZ⟩
      case measure => simp [intOf]; omega
    · have hkn : k = n := by omega
      subst hkn
      have hcc := HC.out
      have hcl : costs (L.take k) ≤ 100000 := by rw [← HL.out, List.take_length]; exact hcc
      have hsd := pl_stands HST.out HA.out (by omega)
      clear hcc hcl
      go_wp2_with (first
        | (go_at_call 14; refine hsd.mono ?_; rintro e w5 ⟨rfl, hp5⟩; have H5 := hide hp5; clear hsd hp5)
        | (go_at_call 12; refine (known_ok _).mono ?_; rintro e w3 ⟨rfl, hk3⟩; have HK3 := hide hk3; clear hk3))
      go_ret
      exact ⟨rfl, H5.out.1.trans HK3.out (by simp)⟩

set_option maxRecDepth 100000 in
theorem creates_walk (hst : StandsOk) (r : Int) (ao : Option Addr) (n cap : Nat) (L : List Stp) (w : World) (hl : L.length = n) (hs : Scr w ao L) (hn : n ≤ 9223372036854775807) (hrw : (Lit.int .i64 r).wf = true) :
    Calls Tryz.prog 3 #[.int .i64 r, .slice ao n cap] w fun e w' => e = .returned (.bool true) ∧ Kept [] w w' := by
  have ho := fun a b => only_walk hst r ao n cap L a b w hl hs hn hrw
  clear hs hl
  go_enter Tryz.func3, Tryz.ntmps3
  go_wp2_with (go_at_call 9; refine (ho _ _).mono ?_; rintro e w2 ⟨rfl, hk⟩)
  go_ret
  exact ⟨rfl, hk⟩

set_option maxRecDepth 100000 in
theorem writes_walk (hst : StandsOk) (r : Int) (ao : Option Addr) (n cap : Nat) (L : List Stp) (w : World) (hl : L.length = n) (hs : Scr w ao L) (hn : n ≤ 9223372036854775807) (hrw : (Lit.int .i64 r).wf = true) :
    Calls Tryz.prog 4 #[.int .i64 r, .slice ao n cap] w fun e w' => e = .returned (.bool true) ∧ Kept [] w w' := by
  have ho := fun a b => only_walk hst r ao n cap L a b w hl hs hn hrw
  clear hs hl
  go_enter Tryz.func4, Tryz.ntmps4
  go_wp2_with (go_at_call 9; refine (ho _ _).mono ?_; rintro e w2 ⟨rfl, hk⟩)
  go_ret
  exact ⟨rfl, hk⟩

set_option maxRecDepth 100000 in
theorem names_walk (hst : StandsOk) (r : Int) (ao : Option Addr) (n cap : Nat) (L : List Stp) (w : World) (hl : L.length = n) (hs : Scr w ao L) (hn : n ≤ 9223372036854775807) (hrw : (Lit.int .i64 r).wf = true) :
    Calls Tryz.prog 5 #[.int .i64 r, .slice ao n cap] w fun e w' => e = .returned (.bool true) ∧ Kept [] w w' := by
  have ho := fun a b => only_walk hst r ao n cap L a b w hl hs hn hrw
  clear hs hl
  go_enter Tryz.func5, Tryz.ntmps5
  go_wp2_with (go_at_call 9; refine (ho _ _).mono ?_; rintro e w2 ⟨rfl, hk⟩)
  go_ret
  exact ⟨rfl, hk⟩

set_option maxRecDepth 100000 in
theorem syncs_walk (hst : StandsOk) (r : Int) (ao : Option Addr) (n cap : Nat) (L : List Stp) (w : World) (hl : L.length = n) (hs : Scr w ao L) (hn : n ≤ 9223372036854775807) (hrw : (Lit.int .i64 r).wf = true) :
    Calls Tryz.prog 6 #[.int .i64 r, .slice ao n cap] w fun e w' => e = .returned (.bool true) ∧ Kept [] w w' := by
  have ho := fun a b => only_walk hst r ao n cap L a b w hl hs hn hrw
  clear hs hl
  go_enter Tryz.func6, Tryz.ntmps6
  go_wp2_with (go_at_call 9; refine (ho _ _).mono ?_; rintro e w2 ⟨rfl, hk⟩)
  go_ret
  exact ⟨rfl, hk⟩

set_option maxRecDepth 100000 in
theorem reads_walk (hst : StandsOk) (r : Int) (ao : Option Addr) (n cap : Nat) (L : List Stp) (w : World) (hl : L.length = n) (hs : Scr w ao L) (hn : n ≤ 9223372036854775807) (hrw : (Lit.int .i64 r).wf = true) :
    Calls Tryz.prog 7 #[.int .i64 r, .slice ao n cap] w fun e w' => e = .returned (.bool true) ∧ Kept [] w w' := by
  have ho := fun a b => only_walk hst r ao n cap L a b w hl hs hn hrw
  clear hs hl
  go_enter Tryz.func7, Tryz.ntmps7
  go_wp2_with (go_at_call 9; refine (ho _ _).mono ?_; rintro e w2 ⟨rfl, hk⟩)
  go_ret
  exact ⟨rfl, hk⟩
end Go.Proofs.YtgimlnnaimjmgaaGreat
