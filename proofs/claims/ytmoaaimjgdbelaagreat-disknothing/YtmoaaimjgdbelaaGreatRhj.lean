/-
  DiskNothing. (Written by tools/rhj.py.)
-/
import Derived.Test.YtmoaaimjgdbelaaGreatRhi
namespace Go.Proofs.YtmoaaimjgdbelaaGreat
open Go.RowKit Dsk
set_option linter.unusedVariables false
set_option linter.unusedSimpArgs false
abbrev DESK : Obj := .cells #[.slice none 0 0, .slice none 0 0] 45
abbrev ZDK : Obj := .cells #[.int .i64 0, .bool false, .map none, .slice none 0 0, .map none, .int .i64 0, .int .i64 0, .int .i64 0, .int .i64 0, .int .i64 0, .slice none 0 0] 70
abbrev ZRK : Obj := .cells #[.bool false, .int .i64 0, .slice none 0 0, .slice none 0 0, .slice none 0 0, .int .i64 0, .int .i64 0, .int .i64 0, .int .i64 0, .int .i64 0, .slice none 0 0] 74
abbrev PRK (a b : Value) (d : Nat) : Obj := .cells #[a, b, .pointer (some ⟨d, 0, none⟩)] 47
/-- Both pairs are made. -/
theorem np_new {w w1 a1 a2 b1 b2 b3 b4 : World} (hk : Kept [] w w1) (h1 : a1 = w1.alloc DESK) (h2 : a2 = a1.alloc (PRK (.pointer none) (.pointer none) w1.heap.size)) (h3 : b1 = a2.alloc ZDK) (h4 : b2 = b1.alloc ZRK) (h5 : b3 = b2.alloc DESK) (h6 : b4 = b3.alloc (PRK (.pointer (some ⟨a2.heap.size, 0, none⟩)) (.pointer (some ⟨b1.heap.size, 0, none⟩)) b2.heap.size)) :
    Np w b4 a1.heap.size (.pointer none) (.pointer none) b3.heap.size (.pointer (some ⟨a2.heap.size, 0, none⟩)) (.pointer (some ⟨b1.heap.size, 0, none⟩)) := by
  have s0 := hk.size
  have s1 : a1.heap.size = w1.heap.size + 1 := by rw [h1]; exact size_alloc _ _
  have s2 : a2.heap.size = a1.heap.size + 1 := by rw [h2]; exact size_alloc _ _
  have s3 : b1.heap.size = a2.heap.size + 1 := by rw [h3]; exact size_alloc _ _
  have s4 : b2.heap.size = b1.heap.size + 1 := by rw [h4]; exact size_alloc _ _
  have s5 : b3.heap.size = b2.heap.size + 1 := by rw [h5]; exact size_alloc _ _
  have s6 : b4.heap.size = b3.heap.size + 1 := by rw [h6]; exact size_alloc _ _
  have k1 : Kept [] w1 a1 := by rw [h1]; exact (Kept.refl [] _).alloc _
  have k2 : Kept [] a1 a2 := by rw [h2]; exact (Kept.refl [] _).alloc _
  have k3 : Kept [] a2 b1 := by rw [h3]; exact (Kept.refl [] _).alloc _
  have k4 : Kept [] b1 b2 := by rw [h4]; exact (Kept.refl [] _).alloc _
  have k5 : Kept [] b2 b3 := by rw [h5]; exact (Kept.refl [] _).alloc _
  have k6 : Kept [] b3 b4 := by rw [h6]; exact (Kept.refl [] _).alloc _
  have m1 : a1.heap[w1.heap.size]? = some (.cells #[.slice none 0 0, .slice none 0 0] 45 (0, 0)) := by rw [h1]; exact (MapKept.heap_alloc w1 _).1
  have m2 : a2.heap[a1.heap.size]? = some (.cells #[.pointer none, .pointer none, .pointer (some ⟨w1.heap.size, 0, none⟩)] 47 (0, 0)) := by rw [h2]; exact (MapKept.heap_alloc a1 _).1
  have m3 : b1.heap[a2.heap.size]? = some (.cells #[.int .i64 0, .bool false, .map none, .slice none 0 0, .map none, .int .i64 0, .int .i64 0, .int .i64 0, .int .i64 0, .int .i64 0, .slice none 0 0] 70 (0, 0)) := by rw [h3]; exact (MapKept.heap_alloc a2 _).1
  have m4 : b2.heap[b1.heap.size]? = some (.cells #[.bool false, .int .i64 0, .slice none 0 0, .slice none 0 0, .slice none 0 0, .int .i64 0, .int .i64 0, .int .i64 0, .int .i64 0, .int .i64 0, .slice none 0 0] 74 (0, 0)) := by rw [h4]; exact (MapKept.heap_alloc b1 _).1
  have m5 : b3.heap[b2.heap.size]? = some (.cells #[.slice none 0 0, .slice none 0 0] 45 (0, 0)) := by rw [h5]; exact (MapKept.heap_alloc b2 _).1
  have m6 : b4.heap[b3.heap.size]? = some (.cells #[.pointer (some ⟨a2.heap.size, 0, none⟩), .pointer (some ⟨b1.heap.size, 0, none⟩), .pointer (some ⟨b2.heap.size, 0, none⟩)] 47 (0, 0)) := by rw [h6]; exact (MapKept.heap_alloc b3 _).1
  have ka : Kept [] a2 b4 := ((k3.trans k4 (by simp)).trans k5 (by simp)).trans k6 (by simp)
  have p1 : Nq (fun b => b < w1.heap.size) a2 a1.heap.size (.pointer none) (.pointer none) w1.heap.size none [] := Nq.put (w := w1) (fun b hb => hb) (by omega) (.inl rfl) (.inl rfl) (fun b e => by cases e) (fun b e => by cases e) (Nat.le_refl _) (by omega) (by omega) (by rw [k2.block _ (by omega) (by simp)]; exact m1) m2
  have p2 : Nq (fun b => b < a2.heap.size) b4 b3.heap.size (.pointer (some ⟨a2.heap.size, 0, none⟩)) (.pointer (some ⟨b1.heap.size, 0, none⟩)) b2.heap.size none [] := Nq.put (w := a2) (fun b hb => hb) (by omega)
    (.inr ⟨_, rfl, by rw [k6.block _ (by omega) (by simp), k5.block _ (by omega) (by simp), k4.block _ (by omega) (by simp)]; exact m3⟩) (.inr ⟨_, rfl, by rw [k6.block _ (by omega) (by simp), k5.block _ (by omega) (by simp)]; exact m4⟩)
    (fun b e => by cases e; omega) (fun b e => by cases e; omega) (by omega) (by omega) (by omega) (by rw [k6.block _ (by omega) (by simp)]; exact m5) m6
  obtain ⟨Z, hZ, hf⟩ := p1.foot
  obtain ⟨Z', hZ', hf'⟩ := p2.foot
  exact ⟨((hk.trans k1 (by simp)).trans k2 (by simp)).trans ka (by simp), Z, Z', fun b hb hz => hZ' b (hf.lt b hb) hz, ⟨fun b hb => Nat.le_of_not_lt fun hn => hZ b (by omega) hb, _, _, _, hf.keep (F := fun _ => False) (Keep.ofNone ka) (fun _ h => h.elim)⟩, ⟨fun b hb => Nat.le_of_not_lt fun hn => hZ' b (by omega) hb, _, _, _, hf'⟩⟩

theorem np_new2 {w w1 : World} (hk : Kept [] w w1) : Np w ((((((w1.alloc (.cells #[.slice none 0 0, .slice none 0 0] 45)).alloc (.cells #[.pointer none, .pointer none, .pointer (some ⟨w1.heap.size, 0, none⟩)] 47)).alloc (.cells #[.int .i64 0, .bool false, .map none, .slice none 0 0, .map none, .int .i64 0, .int .i64 0, .int .i64 0, .int .i64 0, .int .i64 0, .slice none 0 0] 70)).alloc (.cells #[.bool false, .int .i64 0, .slice none 0 0, .slice none 0 0, .slice none 0 0, .int .i64 0, .int .i64 0, .int .i64 0, .int .i64 0, .int .i64 0, .slice none 0 0] 74)).alloc (.cells #[.slice none 0 0, .slice none 0 0] 45)).alloc (.cells #[.pointer (some ⟨w1.heap.size + 1 + 1, 0, none⟩), .pointer (some ⟨w1.heap.size + 1 + 1 + 1, 0, none⟩), .pointer (some ⟨w1.heap.size + 1 + 1 + 1 + 1, 0, none⟩)] 47)) (w1.heap.size + 1) (.pointer none) (.pointer none) (w1.heap.size + 1 + 1 + 1 + 1 + 1) (.pointer (some ⟨w1.heap.size + 1 + 1, 0, none⟩)) (.pointer (some ⟨w1.heap.size + 1 + 1 + 1, 0, none⟩)) := by
  have h := np_new hk rfl rfl rfl rfl rfl rfl
  simp only [size_alloc] at h
  exact h

set_option maxHeartbeats 6400000 in
set_option maxRecDepth 100000 in
theorem nothing_walk (ao : Option Addr) (n cap : Nat) (L : List Stp) (w : World) (hl : L.length = n) (hs : Scr w ao L) (hn : n ≤ 9223372036854775807) :
    Calls Tryz.prog 6 #[.slice ao n cap] w fun e w' => e = .returned (.bool true) ∧ Below w.heap.size w w' := by
  have hlg := long_any ao n cap L w hl hn hs
  have HS : Hid (Scr w ao L) := hs
  have HL : Hid (L.length = n) := hl
  clear hs hl
  go_enter Tryz.func6, Tryz.ntmps6
  go_upto_region 3 with (go_at_call 7; refine hlg.mono ?_; rintro e w1 ⟨he, hk1⟩; clear hlg; rcases he with rfl | ⟨rfl, hsh⟩)
  · go_ret
    exact ⟨rfl, hk1.below (Nat.le_refl _) (by simp)⟩
  go_upto_region 5 with (fail)
  have h2 := np_new2 hk1
  generalize ((((((w1.alloc (.cells #[.slice none 0 0, .slice none 0 0] 45)).alloc (.cells #[.pointer none, .pointer none, .pointer (some ⟨w1.heap.size, 0, none⟩)] 47)).alloc (.cells #[.int .i64 0, .bool false, .map none, .slice none 0 0, .map none, .int .i64 0, .int .i64 0, .int .i64 0, .int .i64 0, .int .i64 0, .slice none 0 0] 70)).alloc (.cells #[.bool false, .int .i64 0, .slice none 0 0, .slice none 0 0, .slice none 0 0, .int .i64 0, .int .i64 0, .int .i64 0, .int .i64 0, .int .i64 0, .slice none 0 0] 74)).alloc (.cells #[.slice none 0 0, .slice none 0 0] 45)).alloc (.cells #[.pointer (some ⟨w1.heap.size + 1 + 1, 0, none⟩), .pointer (some ⟨w1.heap.size + 1 + 1 + 1, 0, none⟩), .pointer (some ⟨w1.heap.size + 1 + 1 + 1 + 1, 0, none⟩)] 47)) = b4 at h2 ⊢
  obtain ⟨dv', hdv⟩ : ∃ x, x = Value.pointer (some ⟨w1.heap.size + 1 + 1, 0, none⟩) := ⟨_, rfl⟩
  obtain ⟨rv', hrv⟩ : ∃ x, x = Value.pointer (some ⟨w1.heap.size + 1 + 1 + 1, 0, none⟩) := ⟨_, rfl⟩
  rw [← hdv, ← hrv] at h2
  clear hdv hrv
  generalize w1.heap.size + 1 + 1 + 1 + 1 + 1 = P' at h2 ⊢
  generalize w1.heap.size + 1 = P at h2 ⊢
  have H2 := hide h2
  clear h2
  have HC : Hid (costs L ≤ 100000) := hide hsh.2
  have hn3 : n ≤ 300 := by rw [← HL.out]; exact hsh.1
  clear hsh hk1
  go_wp2
  go_loopw [5, 6, 7] (fun i t u wr => ∃ k : Nat, k ≤ n ∧ i = .int .i64 k ∧ Hid (Np w wr P (.pointer none) (.pointer none) P' dv' rv')) (fun i t u wr => n - (intOf i).toNat)
  case atStart => exact ⟨0, Nat.zero_le _, rfl, H2⟩
  case round =>
    clear H2
    obtain ⟨k, hk, rfl, HA⟩ := hrel
    by_cases hlt : k < n
    · have hkL : k < L.length := by rw [HL.out]; exact hlt
      obtain ⟨b, off, rfl, _, hcs⟩ := HS.out.open (List.length_pos_iff.1 (by omega))
      obtain ⟨hc, hin⟩ := hcs k hkL
      have hcost := cost_at hkL
      have hcc := HC.out
      have hco : (L.getD k stp0).cost = (L.getD k stp0).dn + 8 * (L.getD k stp0).pn := rfl
      have hd0 : (L.getD k stp0).dn ≤ 200000 := by omega
      have hp0 : (L.getD k stp0).pn ≤ 1000000 := by omega
      have HIN := hide hin
      have HCL : Hid (∀ j v, (L.getD k stp0).cells[j]? = some v → w.cell? ⟨b, off + k * 10 + j, none⟩ = some v) := hide (fun j v hj => by have := hc j v hj; rw [Nat.mul_comm 10 k] at this; exact this)
      generalize L.getD k stp0 = s at *
      clear hin hcs hc hcost hcc hco hkL
      have hkx : Kept [] w wr := HA.out.1
      have c0 := hkx.cellOf (HCL.out 0 _ rfl) (by simp)
      rw [Nat.add_zero] at c0
      by_cases h14 : s.kind = 14
      · rw [h14] at c0
        have d0 := HA.out.cell.1
        have ht1 := twin_z HA.out.cell.2
        clear hkx
        go_upto_region 10 with (go_at_call 20; refine ht1.mono ?_; rintro e v1 ⟨q1, rfl, ho1, hk1⟩; have HO1 := hide ho1; have HB := hide (HA.out.kept hk1); clear ht1 ho1 hk1)
        have d1 := HB.out.swap.cell.1
        have ht2 := twin_z HB.out.swap.cell.2
        clear HA d0
        go_upto_region 11 with (go_at_call 20; refine ht2.mono ?_; rintro e v2 ⟨q2, rfl, ho2, hk2⟩; have HO2 := hide ho2; have HO3 := hide (HO1.out.kept hk2); have HB2 := hide (HB.out.kept hk2); clear ht2 ho2 hk2)
        have f1 := off_z HO3.out
        have f2 := off_z HO2.out
        have f3 := room_z HO3.out
        clear HB d1 HO1 HO2 HO3
        go_wp2_with (first
          | (go_at_call 22; refine f1.mono ?_; rintro e w' ⟨rfl, hww⟩; obtain rfl := hww.symm; clear f1)
          | (go_at_call 22; refine f2.mono ?_; rintro e w' ⟨rfl, hww⟩; obtain rfl := hww.symm; clear f2)
          | (go_at_call 23; refine f3.mono ?_; rintro e w' ⟨rfl, hww⟩; obtain rfl := hww.symm; clear f3))
        go_roundw
        case rel => exact ⟨k + 1, by omega, by go_num, HB2⟩
        case measure => simp [intOf]; omega
      · have hkb : (s.kind == 14) = false := by simpa using h14
        have hstp := np_step HA.out s HIN.out h14 hd0 hp0
        have c1 := hkx.cellOf (HCL.out 1 _ rfl) (by simp)
        have c2 := hkx.cellOf (HCL.out 2 _ rfl) (by simp)
        have c3 := hkx.cellOf (HCL.out 3 _ rfl) (by simp)
        have c4 := hkx.cellOf (HCL.out 4 _ rfl) (by simp)
        have c5 := hkx.cellOf (HCL.out 5 _ rfl) (by simp)
        have c6 := hkx.cellOf (HCL.out 6 _ rfl) (by simp)
        have c7 := hkx.cellOf (HCL.out 7 _ rfl) (by simp)
        have c8 := hkx.cellOf (HCL.out 8 _ rfl) (by simp)
        have c9 := hkx.cellOf (HCL.out 9 _ rfl) (by simp)
        clear hkx
        simp only [Stp.cells] at hstp
        have HST2 : Hid (∀ v, Np w v P (.pointer none) (.pointer none) P' dv' rv' → Calls Tryz.prog 15 #[.pointer (some ⟨P', 0, none⟩), .agg s.cells.toArray] v fun e w' => e = .returned (.bool true) ∧ Np w w' P (.pointer none) (.pointer none) P' dv' rv') := hide (fun v hv => (np_step hv.swap s HIN.out h14 hd0 hp0).mono (by rintro e w' ⟨rfl, h⟩; exact ⟨rfl, h.swap⟩))
        simp only [Stp.cells] at HST2
        go_wp2_with (first
          | (go_at_call 15; refine hstp.mono ?_; rintro e x1 ⟨rfl, hp1⟩; have hstq := HST2.out _ hp1; have e0 := hp1.1.cellOf (HCL.out 0 _ rfl) (by simp); have e1 := hp1.1.cellOf (HCL.out 1 _ rfl) (by simp); have e2 := hp1.1.cellOf (HCL.out 2 _ rfl) (by simp); have e3 := hp1.1.cellOf (HCL.out 3 _ rfl) (by simp); have e4 := hp1.1.cellOf (HCL.out 4 _ rfl) (by simp); have e5 := hp1.1.cellOf (HCL.out 5 _ rfl) (by simp); have e6 := hp1.1.cellOf (HCL.out 6 _ rfl) (by simp); have e7 := hp1.1.cellOf (HCL.out 7 _ rfl) (by simp); have e8 := hp1.1.cellOf (HCL.out 8 _ rfl) (by simp); have e9 := hp1.1.cellOf (HCL.out 9 _ rfl) (by simp); rw [Nat.add_zero] at e0; clear hstp c0 c1 c2 c3 c4 c5 c6 c7 c8 c9 HA HST2)
          | (go_at_call 15; refine hstq.mono ?_; rintro e x2 ⟨rfl, hp2⟩; clear hstq hp1 e0 e1 e2 e3 e4 e5 e6 e7 e8 e9; have hsd := np_stands hp2; clear hp2)
          | (go_at_call 14; refine hsd.mono ?_; rintro e x3 ⟨rfl, hp3⟩; clear hsd; have hse := np_stands hp3.swap; clear hp3)
          | (go_at_call 14; refine hse.mono ?_; rintro e x4 ⟨rfl, hp4⟩; clear hse; have HZ := hide hp4.swap; clear hp4))
        go_roundw
        case rel => exact ⟨k + 1, by omega, by go_num, HZ⟩
        case measure => simp [intOf]; omega
    · have hkn : k = n := by omega
      subst hkn
      have hsd := np_stands HA.out
      go_wp2_with (first
        | (go_at_call 14; refine hsd.mono ?_; rintro e x3 ⟨rfl, hp3⟩; clear hsd; have hse := np_stands hp3.swap; clear hp3)
        | (go_at_call 14; refine hse.mono ?_; rintro e x4 ⟨rfl, hp4⟩; clear hse; have HZ := hide hp4.1; clear hp4)
        | (go_at_call 13; refine (known_ok _).mono ?_; rintro e w3 ⟨rfl, hk3⟩; have HK3 := hide hk3; clear hk3))
      go_ret
      exact ⟨rfl, (HZ.out.trans HK3.out (by simp)).below (Nat.le_refl _) (by simp)⟩
end Go.Proofs.YtmoaaimjgdbelaaGreat
