/-
  DiskRefuses: the walk. (Written by tools/rb.py.)
-/
import Derived.Test.YtcmiehfahdbffabRa
import Derived.Test.YtcmiehfahdbffabJa
import Derived.Test.YtcmiehfahdbffabJc
import Derived.Test.YtcmiehfahdbffabId3
import Derived.Deep.CutRange
namespace Go.Proofs.Ytcmiehfahdbffab
open Go.RowKit Dsk
set_option linter.unusedVariables false
set_option linter.unusedSimpArgs false

set_option maxHeartbeats 1600000 in
set_option maxRecDepth 100000 in
theorem strokeL_ok (K : Int) (a b c d e f g h i : Value) (w : World) : Calls Try.prog 14 #[.agg #[.int .i64 K, a, b, c, d, e, f, g, h, i]] w fun z w' => z = .returned (.bool (decide (1 ≤ K) && decide (K ≤ 8))) ∧ Kept [] w w' := by
  obtain ⟨w1, hw1⟩ : ∃ w1, w1 = w.alloc (.cells #[.int .i64 K, a, b, c, d, e, f, g, h, i] 34) := ⟨_, rfl⟩
  have hk1 : Kept [] w w1 := by rw [hw1]; exact (Kept.refl [] w).alloc _
  have hb1 : w1.heap[w.heap.size]? = some (.cells #[.int .i64 K, a, b, c, d, e, f, g, h, i] 34 (0, 0)) := by rw [hw1]; exact (MapKept.heap_alloc w _).1
  have i0 : w1.cell? ⟨w.heap.size, 0, none⟩ = some (.int .i64 K) := by rw [cell_of_row w1 _ 0 _ _ _ hb1]; rfl
  by_cases h1 : 1 ≤ K
  · have HR : Hid ((decide (1 ≤ K) && decide (K ≤ 8)) = decide (K ≤ 8)) := hide (by simp [h1])
    go_enter Try.func14, Try.ntmps14
    go_upto_region 1 with (fail)
    rw [← hw1]
    clear hw1 hb1
    go_wp2
    go_ret
    exact ⟨by rw [HR.out]; rfl, hk1⟩
  · have HR : Hid ((decide (1 ≤ K) && decide (K ≤ 8)) = false) := hide (by simp [h1])
    go_enter Try.func14, Try.ntmps14
    go_upto_region 1 with (fail)
    rw [← hw1]
    clear hw1 hb1
    go_wp2
    go_ret
    exact ⟨by rw [HR.out]; rfl, hk1⟩
theorem files_small {S : Ds} {N : Nat} (hb : S.Bd N) (hw : S.Wf) : S.files.length ≤ N ∧ ∀ f ∈ S.files, f.2.length ≤ N := by
  refine ⟨by simpa [Ds.files] using hb.shown hw, fun f hf => ?_⟩
  obtain ⟨x, hx, rfl⟩ := List.mem_map.1 hf
  exact hb.len hw (hw.slt (n := x.1) hx)
theorem safe_small {S : Ds} {N : Nat} (hb : S.Bd N) (hw : S.Wf) : S.safeFiles.length ≤ N ∧ ∀ f ∈ S.safeFiles, f.2.length ≤ N := by
  refine ⟨by have := hb.nm; simp only [Ds.safeFiles, List.length_map]; omega, fun f hf => ?_⟩
  obtain ⟨x, hx, rfl⟩ := List.mem_map.1 hf
  have := hb.th x.2 (hw.lt _ (List.mem_append_left _ (List.mem_map.2 ⟨x, hx, rfl⟩)))
  show (S.th x.2).safe.length ≤ N
  omega
theorem Ax.at {X : Nat → Prop} {w0 wa w : World} {p : Nat} {S : Ds} {N : Nat} (h : Ax X wa w p S N) (hX : ∀ b, b < w0.heap.size → X b) (hk : Kept [] w0 wa) : At w0 w p S N := by
  obtain ⟨A, o, h1, h2, h3, h4⟩ := h
  refine ⟨A, o, h1, fun b hb => ?_, ⟨h3.os.trans hk.os, h3.tape.trans hk.tape, h3.output.trans hk.output, Nat.le_trans hk.size h3.size, fun i hi _ => (h3.block i (Nat.lt_of_lt_of_le hi hk.size) (fun hn => hn (hX i hi))).trans (hk.block i hi (by simp))⟩, h4⟩
  apply Classical.byContradiction
  intro hn
  exact hb (h2 b (hX b (by omega))).1

set_option maxHeartbeats 8000000 in
set_option maxRecDepth 100000 in
theorem refuses_walk (r : Int) (ao : Option Addr) (n cap : Nat) (L : List Stp) (w : World) (hl : L.length = n) (hs : Scr w ao L) (hn : n ≤ 9223372036854775807) (hrw : (Lit.int .i64 r).wf = true) :
    Calls Try.prog 3 #[.int .i64 r, .slice ao n cap] w fun e w' => e = .returned (.bool true) ∧ Below w.heap.size w w' := by
  have hlg := long_any ao n cap L w hl hn hs
  by_cases h60 : 60 < n
  · have hlg' : Calls Try.prog 5 #[.slice ao n cap] w fun e w' => (e = .returned (.bool true) ∨ e = .returned (.bool false)) ∧ Kept [] w w' := hlg.mono (fun e w' ⟨h1, h2⟩ => ⟨h1.elim .inl (fun h => .inr h.1), h2⟩)
    clear hlg hs
    go_enter Try.func3, Try.ntmps3
    go_wp2_with (go_at_call 5; refine hlg'.mono ?_; rintro e w1 ⟨rfl | rfl, hk⟩)
    all_goals (go_ret; exact ⟨rfl, hk.below (Nat.le_refl _) (by simp)⟩)
  have hnw := fun (v : World) => new_at r v hrw
  by_cases hr : r < 1 ∨ 1048576 < r
  · have hrE : roomE r = 1 := by unfold roomE; simp; omega
    have hnw' : ∀ v, Calls Try.prog 6 #[.int .i64 r] v fun e w' => e = .returned (.tuple #[.pointer none, .int .i64 1]) ∧ Kept [] v w' := fun v => (hnw v).mono (by
      rintro e w' ⟨u, rfl, h1, _, h2⟩
      rw [hrE] at h2 ⊢
      rw [h2 (by decide)]
      exact ⟨rfl, h1⟩)
    have hlg' : Calls Try.prog 5 #[.slice ao n cap] w fun e w' => (e = .returned (.bool true) ∨ e = .returned (.bool false)) ∧ Kept [] w w' := hlg.mono (fun e w' ⟨h1, h2⟩ => ⟨h1.elim .inl (fun h => .inr h.1), h2⟩)
    clear hlg hs hnw hrE
    rcases hr with hr | hr
    · go_enter Try.func3, Try.ntmps3
      go_wp2_with (first
        | (go_at_call 5; refine hlg'.mono ?_; rintro e w1 ⟨rfl | rfl, hk⟩)
        | (go_at_call 6; refine (hnw' _).mono ?_; rintro e w2 ⟨rfl, hk2⟩)
        | (go_at_call 7; refine (known_ok _).mono ?_; rintro e w3 ⟨rfl, hk3⟩))
      · go_ret; exact ⟨rfl, hk.below (Nat.le_refl _) (by simp)⟩
      · go_ret; exact ⟨rfl, ((hk.trans hk2 (by simp)).trans hk3 (by simp)).below (Nat.le_refl _) (by simp)⟩
    · have hr2 : ¬ r < 1 := by omega
      go_enter Try.func3, Try.ntmps3
      go_wp2_with (first
        | (go_at_call 5; refine hlg'.mono ?_; rintro e w1 ⟨rfl | rfl, hk⟩)
        | (go_at_call 6; refine (hnw' _).mono ?_; rintro e w2 ⟨rfl, hk2⟩)
        | (go_at_call 7; refine (known_ok _).mono ?_; rintro e w3 ⟨rfl, hk3⟩))
      · go_ret; exact ⟨rfl, hk.below (Nat.le_refl _) (by simp)⟩
      · go_ret; exact ⟨rfl, ((hk.trans hk2 (by simp)).trans hk3 (by simp)).below (Nat.le_refl _) (by simp)⟩
  obtain ⟨hr1, hr2⟩ : 1 ≤ r ∧ r ≤ 1048576 := by omega
  have hrE : roomE r = 0 := by unfold roomE; simp; omega
  rw [hrE] at hnw
  have hr2' : ¬ 1048576 < r := by omega
  have hr1' : ¬ r < 1 := by omega
  have HS : Hid (Scr w ao L) := hs
  have HL : Hid (L.length = n) := hl
  clear hs hl hrE
  go_enter Try.func3, Try.ntmps3
  go_upto_region 9 with (first
    | (go_at_call 5; refine hlg.mono ?_; rintro e w1 ⟨he, hk1⟩; clear hlg; rcases he with rfl | ⟨rfl, hsh⟩)
    | (go_at_call 6; refine (hnw w1).mono ?_; rintro e w2 ⟨v, rfl, hk2, hn2, _⟩; obtain ⟨p, rfl, hat⟩ := hn2 (by first | trivial | rfl); have H2 := hide hat; clear hat hn2 hnw))
  all_goals (try (go_ret; exact ⟨rfl, hk1.below (Nat.le_refl _) (by simp)⟩))
  have hk12 : Hid (Kept [] w w2) := hide (hk1.trans hk2 (by simp))
  have HC : Hid (costs L ≤ 100000) := hide hsh.2
  have hn3 : n ≤ 300 := by rw [← HL.out]; exact hsh.1
  have hrN : ((r.toNat : Nat) : Int) = r := by omega
  clear hsh
  go_loopw [7, 8, 9, 10, 11, 12, 13, 14, 15] (fun i _ _ _ _ _ _ _ _ wr => ∃ k : Nat, k ≤ n ∧ i = .int .i64 k ∧ Hid (At w1 wr p (playD (Ds.fresh r.toNat) (L.take k)) (costs (L.take k) + 3 * k))) (fun i _ _ _ _ _ _ _ _ wr => n - (intOf i).toNat)
  case atStart => exact ⟨0, Nat.zero_le _, rfl, by simpa [playD, costs] using H2⟩
  case round =>
    clear H2
    obtain ⟨k, hk, rfl, HA⟩ := hrel
    by_cases hlt : k < n
    · have hkL : k < L.length := by rw [HL.out]; exact hlt
      obtain ⟨b, off, rfl, _, hcs⟩ := HS.out.open (List.length_pos_iff.1 (by omega))
      obtain ⟨hc, hin⟩ := hcs k hkL
      have hkx : Kept [] w wr := hk1.trans HA.out.old (by simp)
      have hin' := hin.kept hkx
      have hcost := cost_at hkL
      have hcc := HC.out
      have hco : (L.getD k stp0).cost = (L.getD k stp0).dn + 8 * (L.getD k stp0).pn := rfl
      have hrm : ((playD (Ds.fresh r.toNat) (L.take k)).room : Int) = r := by
        rw [playD_room]
        exact hrN
      have HST : Hid (∀ v, At w1 v p (stepD (playD (Ds.fresh r.toNat) (L.take k)) (L.getD k stp0)).2 (costs (L.take k) + 3 * k + (L.getD k stp0).dn + 3) → At w1 v p (playD (Ds.fresh r.toNat) (L.take (k + 1))) (costs (L.take (k + 1)) + 3 * (k + 1))) := fun v hv => by
        rw [stp_snoc L k hkL, playD_snoc, costs_snoc]
        exact hv.mono (by omega)
      have c0 := hkx.cellOf (hc 0 _ rfl) (by simp)
      have c1 := hkx.cellOf (hc 1 _ rfl) (by simp)
      have c2 := hkx.cellOf (hc 2 _ rfl) (by simp)
      have c3 := hkx.cellOf (hc 3 _ rfl) (by simp)
      have c4 := hkx.cellOf (hc 4 _ rfl) (by simp)
      have c5 := hkx.cellOf (hc 5 _ rfl) (by simp)
      have c6 := hkx.cellOf (hc 6 _ rfl) (by simp)
      have c7 := hkx.cellOf (hc 7 _ rfl) (by simp)
      have c8 := hkx.cellOf (hc 8 _ rfl) (by simp)
      have c9 := hkx.cellOf (hc 9 _ rfl) (by simp)
      rw [Nat.mul_comm 10 k] at c0 c1 c2 c3 c4 c5 c6 c7 c8 c9
      rw [Nat.add_zero] at c0
      have hNb : costs (L.take k) + 3 * k + (L.getD k stp0).dn ≤ 200000 := by omega
      have hpb : (L.getD k stp0).pn ≤ 1073741824 := by omega
      generalize hSe : playD (Ds.fresh r.toNat) (L.take k) = S at *
      generalize hNe : costs (L.take k) + 3 * k = N at *
      generalize L.getD k stp0 = s at *
      clear hin hcs hc hcost hcc hco hkL hSe hNe
      obtain ⟨w5, hw5⟩ : ∃ w5, w5 = wr.alloc (.cells #[.int .i64 s.kind, encStr s.name, encStr s.to, .int .i64 s.at_, .int .i64 s.n, .slice s.da s.dn s.dc, .int .i64 s.po, .int .i64 s.pf, .int .i64 s.pt, .slice s.pa s.pn s.pc] 34) := ⟨_, rfl⟩
      have hk5 : Kept [] wr w5 := by rw [hw5]; exact (Kept.refl [] wr).alloc _
      have hb5 : w5.heap[wr.heap.size]? = some (.cells #[.int .i64 s.kind, encStr s.name, encStr s.to, .int .i64 s.at_, .int .i64 s.n, .slice s.da s.dn s.dc, .int .i64 s.po, .int .i64 s.pf, .int .i64 s.pt, .slice s.pa s.pn s.pc] 34 (0, 0)) := by rw [hw5]; exact (MapKept.heap_alloc wr _).1
      have h5 := HA.out.ax.kept hk5
      have hfl := files_ax h5 (by omega)
      have hwx : Kept [] w1 wr := HA.out.old
      have hwf := HA.out.wf
      have hbd := HA.out.bd
      have HCL : Hid (∀ v : World, v.heap[wr.heap.size]? = some (.cells #[.int .i64 s.kind, encStr s.name, encStr s.to, .int .i64 s.at_, .int .i64 s.n, .slice s.da s.dn s.dc, .int .i64 s.po, .int .i64 s.pf, .int .i64 s.pt, .slice s.pa s.pn s.pc] 34 (0, 0)) → v.cell? ⟨wr.heap.size, 0, none⟩ = some (.int .i64 s.kind) ∧ v.cell? ⟨wr.heap.size, 1, none⟩ = some (encStr s.name) ∧ v.cell? ⟨wr.heap.size, 2, none⟩ = some (encStr s.to) ∧ v.cell? ⟨wr.heap.size, 3, none⟩ = some (.int .i64 s.at_) ∧ v.cell? ⟨wr.heap.size, 4, none⟩ = some (.int .i64 s.n) ∧ v.cell? ⟨wr.heap.size, 5, none⟩ = some (.slice s.da s.dn s.dc) ∧ v.cell? ⟨wr.heap.size, 6, none⟩ = some (.int .i64 s.po) ∧ v.cell? ⟨wr.heap.size, 7, none⟩ = some (.int .i64 s.pf) ∧ v.cell? ⟨wr.heap.size, 8, none⟩ = some (.int .i64 s.pt) ∧ v.cell? ⟨wr.heap.size, 9, none⟩ = some (.slice s.pa s.pn s.pc)) := hide (fun v hb => ⟨by rw [cell_of_row v _ 0 _ _ _ hb]; rfl, by rw [cell_of_row v _ 1 _ _ _ hb]; rfl, by rw [cell_of_row v _ 2 _ _ _ hb]; rfl, by rw [cell_of_row v _ 3 _ _ _ hb]; rfl, by rw [cell_of_row v _ 4 _ _ _ hb]; rfl, by rw [cell_of_row v _ 5 _ _ _ hb]; rfl, by rw [cell_of_row v _ 6 _ _ _ hb]; rfl, by rw [cell_of_row v _ 7 _ _ _ hb]; rfl, by rw [cell_of_row v _ 8 _ _ _ hb]; rfl, by rw [cell_of_row v _ 9 _ _ _ hb]; rfl⟩)
      go_upto_region 12 with (fail)
      rw [← hw5]
      clear hw5
      go_upto_region 17 with (first
        | (go_at_call 8; refine hfl.mono ?_; rintro e w6 ⟨lv6, vs6, rfl, hF6, hk6⟩; clear hfl; obtain ⟨lo6, lc6, rfl, _⟩ := own_shape hF6.row; have h6 := h5.kept hk6; have hsf := safe_ax h6 (by omega); have HF6 := hide hF6; have HK6 := hide hk6; clear hF6 hk6 h5)
        | (go_at_call 9; refine hsf.mono ?_; rintro e w7 ⟨lv7, vs7, rfl, hF7, hk7⟩; clear hsf; obtain ⟨lo7, lc7, rfl, _⟩ := own_shape hF7.row; have h7 := h6.kept hk7; have hrd := reads_ax h7 (by omega); have HF7 := hide hF7; have HK7 := hide hk7; clear hF7 hk7 h6)
        | (go_at_call 10; refine hrd.mono ?_; rintro e w8 ⟨lv8, rfl, hR8, hk8⟩; clear hrd; obtain ⟨lo8, lc8, rfl, _⟩ := own_shape hR8; have h8 := h7.kept hk8; have hst := strokes_ax h8; have hof := off_ax h8; generalize hob : (!S.on) = ob at hof; have HR8 := hide hR8; have HK8 := hide hk8; clear hR8 hk8 h7 h8)
        | (go_at_call 11; refine hst.mono ?_; rintro e w' ⟨rfl, hw⟩; obtain rfl := hw.symm; clear hst)
        | (go_at_call 12; refine hof.mono ?_; rintro e w' ⟨rfl, hw⟩; obtain rfl := hw.symm; clear hof))
      have k58 : Kept [] w5 w8 := (HK6.out.trans HK7.out (by simp)).trans HK8.out (by simp)
      have k8 : Kept [] wr w8 := hk5.trans k58 (by simp)
      have h8 := HA.out.ax.more k8
      generalize hXe : More (fun b => b < w1.heap.size) wr w8 = X at h8
      have HX0 : Hid (∀ b, b < w1.heap.size → X b) := hide (fun b hb => by rw [← hXe]; exact .inl hb)
      have hXn : ∀ b, wr.heap.size ≤ b → b < w8.heap.size → X b := fun b h1 h2 => by rw [← hXe]; exact .inr ⟨h1, h2⟩
      have hb8 : w8.heap[wr.heap.size]? = some (.cells #[.int .i64 s.kind, encStr s.name, encStr s.to, .int .i64 s.at_, .int .i64 s.n, .slice s.da s.dn s.dc, .int .i64 s.po, .int .i64 s.pf, .int .i64 s.pt, .slice s.pa s.pn s.pc] 34 (0, 0)) := (k58.block _ (Array.getElem?_eq_some_iff.1 hb5).1 (by simp)).trans hb5
      have SB : Hid (Stay X w8 (fun v => v.cell? ⟨wr.heap.size, 0, none⟩ = some (.int .i64 s.kind) ∧ v.cell? ⟨wr.heap.size, 1, none⟩ = some (encStr s.name) ∧ v.cell? ⟨wr.heap.size, 2, none⟩ = some (encStr s.to) ∧ v.cell? ⟨wr.heap.size, 3, none⟩ = some (.int .i64 s.at_) ∧ v.cell? ⟨wr.heap.size, 4, none⟩ = some (.int .i64 s.n) ∧ v.cell? ⟨wr.heap.size, 5, none⟩ = some (.slice s.da s.dn s.dc) ∧ v.cell? ⟨wr.heap.size, 6, none⟩ = some (.int .i64 s.po) ∧ v.cell? ⟨wr.heap.size, 7, none⟩ = some (.int .i64 s.pf) ∧ v.cell? ⟨wr.heap.size, 8, none⟩ = some (.int .i64 s.pt) ∧ v.cell? ⟨wr.heap.size, 9, none⟩ = some (.slice s.pa s.pn s.pc))) := hide (fun v hv => HCL.out v (hv.heapOf hb8 (fun hn => hn (hXn _ (Nat.le_refl _) (Array.getElem?_eq_some_iff.1 hb8).1))))
      have S6 : Hid (Stay X w8 (fun v => Fis v lo6 S.files)) := hide (by
        have f8 : Fls w8 wr.heap.size (.slice lo6 S.files.length lc6) S.files vs6 := ((HF6.out.kept HK7.out).kept HK8.out).base hk5.size
        have := Stay.fls (X := fun b => b < w1.heap.size) f8
        rw [hXe] at this
        exact this.imp (fun v hv => (Fis.of hv).1))
      have S7 : Hid (Stay X w8 (fun v => Fis v lo7 S.safeFiles)) := hide (by
        have f8 : Fls w8 wr.heap.size (.slice lo7 S.safeFiles.length lc7) S.safeFiles vs7 := (HF7.out.kept HK8.out).base (Nat.le_trans hk5.size HK6.out.size)
        have := Stay.fls (X := fun b => b < w1.heap.size) f8
        rw [hXe] at this
        exact this.imp (fun v hv => (Fis.of hv).1))
      have S8 : Hid (Stay X w8 (fun v => Sps v lo8 S.reads)) := hide (by
        have := Stay.own (X := fun b => b < w1.heap.size) (ownsRow_base_a HR8.out (Nat.le_trans hk5.size (Nat.le_trans HK6.out.size HK7.out.size)))
        rw [hXe] at this
        exact this.imp (fun v hv => Sps.of hv))
      have HB : Hid (∀ v, Ax X w8 v p (stepD S s).2 (N + s.dn + 3) → Hid (At w1 v p (playD (Ds.fresh r.toNat) (L.take (k + 1))) (costs (L.take (k + 1)) + 3 * (k + 1)))) := hide (fun v hv => hide (HST.out v (hv.at HX0.out (hwx.trans k8 (by simp)))))
      have hin8 := hin'.kept k8
      have hdo := dx_ok h8 s hin8 (by omega) hpb
      have HD := hide (does_ok hwf s)
      have hdo' : Calls Try.prog 13 #[.pointer (some ⟨p, 0, none⟩), .agg #[.int .i64 s.kind, encStr s.name, encStr s.to, .int .i64 s.at_, .int .i64 s.n, .slice s.da s.dn s.dc, .int .i64 s.po, .int .i64 s.pf, .int .i64 s.pt, .slice s.pa s.pn s.pc]] w8 fun e w' => ∃ f, e = .returned (.int .i64 f) ∧ ∃ T, Hid (Does S s.kind f T) ∧ Hid (Ax X w8 w' p T (N + s.dn + 3)) ∧ Hid (∀ v, Ax X w8 v p T (N + s.dn + 3) → Hid (At w1 v p (playD (Ds.fresh r.toNat) (L.take (k + 1))) (costs (L.take (k + 1)) + 3 * (k + 1)))) := hdo.mono (fun e w' ⟨h1, h2⟩ => ⟨_, h1, _, HD, hide h2, HB⟩)
      obtain ⟨i0, i1, i2, i3, i4, i5, i6, i7, i8, i9⟩ := HCL.out w8 hb8
      clear hdo HD HB HST hin8 hin' h8 hb8 hb5 HCL HF6 HF7 HR8 HK6 HK7 HK8 k58 k8 hk5 HA hXn hXe c0 c1 c2 c3 c4 c5 c6 c7 c8 c9 hkx
      go_upto_region 18 with (go_at_call 13; refine hdo'.mono ?_; rintro e w9 ⟨f, rfl, T, HD, H9, HB⟩; clear hdo')
      clear i0 i1 i2 i3 i4 i5 i6 i7 i8 i9
      obtain ⟨j0, j1, j2, j3, j4, j5, j6, j7, j8, j9⟩ := SB.out w9 H9.out.old
      have F6 := S6.out w9 H9.out.old
      have F7 := S7.out w9 H9.out.old
      have R8 := S8.out w9 H9.out.old
      have hsk := fun v => strokeL_ok s.kind (encStr s.name) (encStr s.to) (.int .i64 s.at_) (.int .i64 s.n) (.slice s.da s.dn s.dc) (.int .i64 s.po) (.int .i64 s.pf) (.int .i64 s.pt) (.slice s.pa s.pn s.pc) v
      have R9 : ∀ v, Kept [] w9 v → Sps v lo8 S.reads := fun v hv => S8.out v (H9.out.old.kept hv)
      have hsm := files_small hbd hwf
      have hsm2 := safe_small hbd hwf
      have HM : Hid (S.files.length ≤ 4611686018427387904 ∧ (∀ f ∈ S.files, f.2.length ≤ 4611686018427387904) ∧ S.safeFiles.length ≤ 4611686018427387904 ∧ (∀ f ∈ S.safeFiles, f.2.length ≤ 4611686018427387904) ∧ S.reads.length ≤ 4611686018427387904 ∧ totalOf S.files ≤ 4611686018427387904) := hide ⟨by omega, fun f hf => by have := hsm.2 f hf; omega, by omega, fun f hf => by have := hsm2.2 f hf; omega, by have := hbd.reads; omega, by
        have h1 := used_le hbd hwf
        have h2 := Nat.le_trans h1 (Nat.mul_le_mul_right _ (hbd.shown hwf))
        have h3 : N * N ≤ 200000 * 200000 := Nat.mul_le_mul (by omega) (by omega)
        omega⟩
      have hsb : S.strokes ≤ 200000 := by have := hbd.strokes; omega
      have HO := hide hob
      have HJ := hide (And.intro F6 (And.intro F7 R9))
      clear hsm hsm2 hob hbd S6 S7 S8 SB F6 F7 R8 R9 HX0 hwx
      generalize s.kind = K at *
      rcases HD.out with ⟨hon, hK, he, hT⟩ | ⟨hon, he, hT⟩ | ⟨hon, hK, he, hg, hT⟩ | ⟨hon, hK, he, hTn, hTo, hTs⟩ | ⟨hon, hK, he, hTn, hu⟩ | ⟨hK, hh, hK12, he, hTn⟩ | ⟨hK, he, hTn, hTo⟩
      · as_aux_lemma =>
          obtain ⟨K1, K10⟩ := hK
          have hbt : ob = true := by rw [← HO.out, hon]; rfl
          subst hbt he
          obtain ⟨hTf, hTs, hTr, hTo, hTn⟩ : T.files = S.files ∧ T.safeFiles = S.safeFiles ∧ T.reads = S.reads ∧ T.on = false ∧ T.strokes = S.strokes := by subst hT; exact ⟨rfl, rfl, rfl, hon, rfl⟩
          clear hT hon HD HO hwf
          have hst9 := strokes_ax H9.out
          rw [hTn] at hst9
          have hfl9 := files_ax H9.out (by omega)
          rw [hTf] at hfl9
          clear hTn hTf
          go_wp2_with (first
            | (go_at_call 11; refine hst9.mono ?_; rintro e w' ⟨rfl, hw⟩; obtain rfl := hw.symm; clear hst9)
            | (go_at_call 8; refine hfl9.mono ?_; rintro e w10 ⟨v10, vs10, rfl, hF10, hk10⟩; obtain ⟨lo10, lc10, rfl, _⟩ := own_shape hF10.row; have h10 := H9.out.kept hk10; have hcf := files_yes lo10 lo6 S.files.length lc10 lc6 S.files w10 rfl HM.out.1 HM.out.2.1 (Fis.of hF10).1 (HJ.out.1.kept hk10); have K10' := hide hk10; have H10 := hide h10; clear hF10 hk10 hfl9 h10)
            | (go_at_call 17; refine hcf.mono ?_; rintro e w11 ⟨rfl, j11, hw11⟩; have hk11 : Kept [] w10 w11 := (by rw [hw11]; exact (Kept.refl [] w10).drewN _); have h11 := H10.out.kept hk11; have hsf := safe_ax h11 (by omega); rw [hTs] at hsf; have K11 := hide (K10'.out.trans hk11 (by simp)); have H11 := hide h11; clear hcf hw11 hk11 H10 h11 j11)
            | (go_at_call 9; refine hsf.mono ?_; rintro e w12 ⟨v12, vs12, rfl, hF12, hk12⟩; obtain ⟨lo12, lc12, rfl, _⟩ := own_shape hF12.row; have h12 := H11.out.kept hk12; have k12 := K11.out.trans hk12 (by simp); have hcf2 := files_yes lo12 lo7 S.safeFiles.length lc12 lc7 S.safeFiles w12 rfl HM.out.2.2.1 HM.out.2.2.2.1 (Fis.of hF12).1 (HJ.out.2.1.kept k12); have K12' := hide k12; have H12 := hide h12; clear hF12 hk12 hsf h12 H11 k12)
            | (go_at_call 17; refine hcf2.mono ?_; rintro e w13 ⟨rfl, j13, hw13⟩; have hk13 : Kept [] w12 w13 := (by rw [hw13]; exact (Kept.refl [] w12).drewN _); have h13 := H12.out.kept hk13; have hrd := reads_ax h13 (by omega); rw [hTr] at hrd; have K13 := hide (K12'.out.trans hk13 (by simp)); have H13 := hide h13; clear hcf2 hw13 hk13 H12 h13 j13)
            | (go_at_call 10; refine hrd.mono ?_; rintro e w14 ⟨v14, rfl, hR14, hk14⟩; obtain ⟨lo14, lc14, rfl, _⟩ := own_shape hR14; have h14 := H13.out.kept hk14; have k14 := K13.out.trans hk14 (by simp); have hsp := spans_yes lo14 lo8 S.reads.length lc14 lc8 S.reads w14 rfl HM.out.2.2.2.2.1 (Sps.of hR14) (HJ.out.2.2 _ k14); have H14 := hide h14; clear hR14 hk14 hrd h14 H13 k14)
            | (go_at_call 18; refine hsp.mono ?_; rintro e w15 ⟨rfl, j15, hw15⟩; have hk15 : Kept [] w14 w15 := (by rw [hw15]; exact (Kept.refl [] w14).drewN _); have h15 := H14.out.kept hk15; have hof := off_ax h15; rw [hTo] at hof; have HE := HB.out _ h15; clear hsp hw15 hk15 H14 h15 j15)
            | (go_at_call 12; refine hof.mono ?_; rintro e w' ⟨rfl, hw⟩; obtain rfl := hw.symm; clear hof))
          refine ⟨⟨k + 1, by omega, by go_num, HE⟩, by simp [intOf]; omega⟩
      · as_aux_lemma =>
          have hbt : ob = false := by rw [← HO.out, hon]; rfl
          subst hbt
          have f0 : ¬ f = 0 := by omega
          have f50 : ¬ f = 50 := by omega
          have f55 : ¬ f = 55 := by omega
          have f56 : ¬ f = 56 := by omega
          obtain ⟨hTf, hTs, hTr, hTo, hTn⟩ : T.files = S.files ∧ T.safeFiles = S.safeFiles ∧ T.reads = S.reads ∧ T.on = true ∧ T.strokes = S.strokes := by subst hT; exact ⟨rfl, rfl, rfl, hon, rfl⟩
          clear hT hon HD HO hwf he
          have hst9 := strokes_ax H9.out
          rw [hTn] at hst9
          have hfl9 := files_ax H9.out (by omega)
          rw [hTf] at hfl9
          clear hTn hTf
          go_wp2_with (first
            | (go_at_call 11; refine hst9.mono ?_; rintro e w' ⟨rfl, hw⟩; obtain rfl := hw.symm; clear hst9)
            | (go_at_call 8; refine hfl9.mono ?_; rintro e w10 ⟨v10, vs10, rfl, hF10, hk10⟩; obtain ⟨lo10, lc10, rfl, _⟩ := own_shape hF10.row; have h10 := H9.out.kept hk10; have hcf := files_yes lo10 lo6 S.files.length lc10 lc6 S.files w10 rfl HM.out.1 HM.out.2.1 (Fis.of hF10).1 (HJ.out.1.kept hk10); have K10' := hide hk10; have H10 := hide h10; clear hF10 hk10 hfl9 h10)
            | (go_at_call 17; refine hcf.mono ?_; rintro e w11 ⟨rfl, j11, hw11⟩; have hk11 : Kept [] w10 w11 := (by rw [hw11]; exact (Kept.refl [] w10).drewN _); have h11 := H10.out.kept hk11; have hsf := safe_ax h11 (by omega); rw [hTs] at hsf; have K11 := hide (K10'.out.trans hk11 (by simp)); have H11 := hide h11; clear hcf hw11 hk11 H10 h11 j11)
            | (go_at_call 9; refine hsf.mono ?_; rintro e w12 ⟨v12, vs12, rfl, hF12, hk12⟩; obtain ⟨lo12, lc12, rfl, _⟩ := own_shape hF12.row; have h12 := H11.out.kept hk12; have k12 := K11.out.trans hk12 (by simp); have hcf2 := files_yes lo12 lo7 S.safeFiles.length lc12 lc7 S.safeFiles w12 rfl HM.out.2.2.1 HM.out.2.2.2.1 (Fis.of hF12).1 (HJ.out.2.1.kept k12); have K12' := hide k12; have H12 := hide h12; clear hF12 hk12 hsf h12 H11 k12)
            | (go_at_call 17; refine hcf2.mono ?_; rintro e w13 ⟨rfl, j13, hw13⟩; have hk13 : Kept [] w12 w13 := (by rw [hw13]; exact (Kept.refl [] w12).drewN _); have h13 := H12.out.kept hk13; have hrd := reads_ax h13 (by omega); rw [hTr] at hrd; have K13 := hide (K12'.out.trans hk13 (by simp)); have H13 := hide h13; clear hcf2 hw13 hk13 H12 h13 j13)
            | (go_at_call 10; refine hrd.mono ?_; rintro e w14 ⟨v14, rfl, hR14, hk14⟩; obtain ⟨lo14, lc14, rfl, _⟩ := own_shape hR14; have h14 := H13.out.kept hk14; have k14 := K13.out.trans hk14 (by simp); have hsp := spans_yes lo14 lo8 S.reads.length lc14 lc8 S.reads w14 rfl HM.out.2.2.2.2.1 (Sps.of hR14) (HJ.out.2.2 _ k14); have H14 := hide h14; clear hR14 hk14 hrd h14 H13 k14)
            | (go_at_call 18; refine hsp.mono ?_; rintro e w15 ⟨rfl, j15, hw15⟩; have hk15 : Kept [] w14 w15 := (by rw [hw15]; exact (Kept.refl [] w14).drewN _); have h15 := H14.out.kept hk15; have hof := off_ax h15; rw [hTo] at hof; have HE := HB.out _ h15; clear hsp hw15 hk15 H14 h15 j15)
            | (go_at_call 12; refine hof.mono ?_; rintro e w' ⟨rfl, hw⟩; obtain rfl := hw.symm; clear hof))
          refine ⟨⟨k + 1, by omega, by go_num, HE⟩, by simp [intOf]; omega⟩
      · as_aux_lemma =>
          have hbt : ob = false := by rw [← HO.out, hon]; rfl
          subst hbt
          obtain ⟨hTf, hTs, hTr, hTo, hTn⟩ : T.files = S.files ∧ T.safeFiles = S.safeFiles ∧ T.reads = S.reads ∧ T.on = true ∧ ((T.strokes : Nat) : Int) = (S.strokes : Int) + 1 := by subst hT; exact ⟨rfl, rfl, rfl, by simp [Ds.tick, hon, hg], by simp [Ds.tick]⟩
          clear hT hon HD HO hwf hg hK
          rcases he with rfl | rfl
          · have hst9 := strokes_ax H9.out
            rw [hTn] at hst9
            have hfl9 := files_ax H9.out (by omega)
            rw [hTf] at hfl9
            clear hTn hTf
            go_wp2_with (first
              | (go_at_call 11; refine hst9.mono ?_; rintro e w' ⟨rfl, hw⟩; obtain rfl := hw.symm; clear hst9)
              | (go_at_call 8; refine hfl9.mono ?_; rintro e w10 ⟨v10, vs10, rfl, hF10, hk10⟩; obtain ⟨lo10, lc10, rfl, _⟩ := own_shape hF10.row; have h10 := H9.out.kept hk10; have hcf := files_yes lo10 lo6 S.files.length lc10 lc6 S.files w10 rfl HM.out.1 HM.out.2.1 (Fis.of hF10).1 (HJ.out.1.kept hk10); have K10' := hide hk10; have H10 := hide h10; clear hF10 hk10 hfl9 h10)
              | (go_at_call 17; refine hcf.mono ?_; rintro e w11 ⟨rfl, j11, hw11⟩; have hk11 : Kept [] w10 w11 := (by rw [hw11]; exact (Kept.refl [] w10).drewN _); have h11 := H10.out.kept hk11; have hsf := safe_ax h11 (by omega); rw [hTs] at hsf; have K11 := hide (K10'.out.trans hk11 (by simp)); have H11 := hide h11; clear hcf hw11 hk11 H10 h11 j11)
              | (go_at_call 9; refine hsf.mono ?_; rintro e w12 ⟨v12, vs12, rfl, hF12, hk12⟩; obtain ⟨lo12, lc12, rfl, _⟩ := own_shape hF12.row; have h12 := H11.out.kept hk12; have k12 := K11.out.trans hk12 (by simp); have hcf2 := files_yes lo12 lo7 S.safeFiles.length lc12 lc7 S.safeFiles w12 rfl HM.out.2.2.1 HM.out.2.2.2.1 (Fis.of hF12).1 (HJ.out.2.1.kept k12); have K12' := hide k12; have H12 := hide h12; clear hF12 hk12 hsf h12 H11 k12)
              | (go_at_call 17; refine hcf2.mono ?_; rintro e w13 ⟨rfl, j13, hw13⟩; have hk13 : Kept [] w12 w13 := (by rw [hw13]; exact (Kept.refl [] w12).drewN _); have h13 := H12.out.kept hk13; have hrd := reads_ax h13 (by omega); rw [hTr] at hrd; have K13 := hide (K12'.out.trans hk13 (by simp)); have H13 := hide h13; clear hcf2 hw13 hk13 H12 h13 j13)
              | (go_at_call 10; refine hrd.mono ?_; rintro e w14 ⟨v14, rfl, hR14, hk14⟩; obtain ⟨lo14, lc14, rfl, _⟩ := own_shape hR14; have h14 := H13.out.kept hk14; have k14 := K13.out.trans hk14 (by simp); have hsp := spans_yes lo14 lo8 S.reads.length lc14 lc8 S.reads w14 rfl HM.out.2.2.2.2.1 (Sps.of hR14) (HJ.out.2.2 _ k14); have H14 := hide h14; clear hR14 hk14 hrd h14 H13 k14)
              | (go_at_call 18; refine hsp.mono ?_; rintro e w15 ⟨rfl, j15, hw15⟩; have hk15 : Kept [] w14 w15 := (by rw [hw15]; exact (Kept.refl [] w14).drewN _); have h15 := H14.out.kept hk15; have hof := off_ax h15; rw [hTo] at hof; have HE := HB.out _ h15; clear hsp hw15 hk15 H14 h15 j15)
              | (go_at_call 12; refine hof.mono ?_; rintro e w' ⟨rfl, hw⟩; obtain rfl := hw.symm; clear hof))
            refine ⟨⟨k + 1, by omega, by go_num, HE⟩, by simp [intOf]; omega⟩
          · have hst9 := strokes_ax H9.out
            rw [hTn] at hst9
            have hfl9 := files_ax H9.out (by omega)
            rw [hTf] at hfl9
            clear hTn hTf
            go_wp2_with (first
              | (go_at_call 11; refine hst9.mono ?_; rintro e w' ⟨rfl, hw⟩; obtain rfl := hw.symm; clear hst9)
              | (go_at_call 8; refine hfl9.mono ?_; rintro e w10 ⟨v10, vs10, rfl, hF10, hk10⟩; obtain ⟨lo10, lc10, rfl, _⟩ := own_shape hF10.row; have h10 := H9.out.kept hk10; have hcf := files_yes lo10 lo6 S.files.length lc10 lc6 S.files w10 rfl HM.out.1 HM.out.2.1 (Fis.of hF10).1 (HJ.out.1.kept hk10); have K10' := hide hk10; have H10 := hide h10; clear hF10 hk10 hfl9 h10)
              | (go_at_call 17; refine hcf.mono ?_; rintro e w11 ⟨rfl, j11, hw11⟩; have hk11 : Kept [] w10 w11 := (by rw [hw11]; exact (Kept.refl [] w10).drewN _); have h11 := H10.out.kept hk11; have hsf := safe_ax h11 (by omega); rw [hTs] at hsf; have K11 := hide (K10'.out.trans hk11 (by simp)); have H11 := hide h11; clear hcf hw11 hk11 H10 h11 j11)
              | (go_at_call 9; refine hsf.mono ?_; rintro e w12 ⟨v12, vs12, rfl, hF12, hk12⟩; obtain ⟨lo12, lc12, rfl, _⟩ := own_shape hF12.row; have h12 := H11.out.kept hk12; have k12 := K11.out.trans hk12 (by simp); have hcf2 := files_yes lo12 lo7 S.safeFiles.length lc12 lc7 S.safeFiles w12 rfl HM.out.2.2.1 HM.out.2.2.2.1 (Fis.of hF12).1 (HJ.out.2.1.kept k12); have K12' := hide k12; have H12 := hide h12; clear hF12 hk12 hsf h12 H11 k12)
              | (go_at_call 17; refine hcf2.mono ?_; rintro e w13 ⟨rfl, j13, hw13⟩; have hk13 : Kept [] w12 w13 := (by rw [hw13]; exact (Kept.refl [] w12).drewN _); have h13 := H12.out.kept hk13; have hrd := reads_ax h13 (by omega); rw [hTr] at hrd; have K13 := hide (K12'.out.trans hk13 (by simp)); have H13 := hide h13; clear hcf2 hw13 hk13 H12 h13 j13)
              | (go_at_call 10; refine hrd.mono ?_; rintro e w14 ⟨v14, rfl, hR14, hk14⟩; obtain ⟨lo14, lc14, rfl, _⟩ := own_shape hR14; have h14 := H13.out.kept hk14; have k14 := K13.out.trans hk14 (by simp); have hsp := spans_yes lo14 lo8 S.reads.length lc14 lc8 S.reads w14 rfl HM.out.2.2.2.2.1 (Sps.of hR14) (HJ.out.2.2 _ k14); have H14 := hide h14; clear hR14 hk14 hrd h14 H13 k14)
              | (go_at_call 18; refine hsp.mono ?_; rintro e w15 ⟨rfl, j15, hw15⟩; have hk15 : Kept [] w14 w15 := (by rw [hw15]; exact (Kept.refl [] w14).drewN _); have h15 := H14.out.kept hk15; have hof := off_ax h15; rw [hTo] at hof; have HE := HB.out _ h15; clear hsp hw15 hk15 H14 h15 j15)
              | (go_at_call 12; refine hof.mono ?_; rintro e w' ⟨rfl, hw⟩; obtain rfl := hw.symm; clear hof))
            refine ⟨⟨k + 1, by omega, by go_num, HE⟩, by simp [intOf]; omega⟩
      · as_aux_lemma =>
          have hbt : ob = false := by rw [← HO.out, hon]; rfl
          subst hbt he
          have hTn' : ((T.strokes : Nat) : Int) = (S.strokes : Int) + 1 := by omega
          have hst9 := strokes_ax H9.out
          rw [hTn'] at hst9
          have hof9 := off_ax H9.out
          rw [hTo] at hof9
          have hsf9 := safe_ax H9.out (by omega)
          rw [hTs] at hsf9
          clear hon HD HO hwf hK hTn hTn' hTo
          go_wp2_with (first
            | (go_at_call 11; refine hst9.mono ?_; rintro e w' ⟨rfl, hw⟩; obtain rfl := hw.symm; clear hst9)
            | (go_at_call 12; refine hof9.mono ?_; rintro e w' ⟨rfl, hw⟩; obtain rfl := hw.symm; clear hof9)
            | (go_at_call 9; refine hsf9.mono ?_; rintro e w10 ⟨v10, vs10, rfl, hF10, hk10⟩; obtain ⟨lo10, lc10, rfl, _⟩ := own_shape hF10.row; have h10 := H9.out.kept hk10; have hcf := files_yes lo10 lo7 S.safeFiles.length lc10 lc7 S.safeFiles w10 rfl HM.out.2.2.1 HM.out.2.2.2.1 (Fis.of hF10).1 (HJ.out.2.1.kept hk10); have H10 := hide h10; clear hF10 hk10 hsf9 h10)
            | (go_at_call 17; refine hcf.mono ?_; rintro e w11 ⟨rfl, j11, hw11⟩; have hk11 : Kept [] w10 w11 := (by rw [hw11]; exact (Kept.refl [] w10).drewN _); have h11 := H10.out.kept hk11; have HE := HB.out _ h11; clear hcf hw11 hk11 H10 h11 j11))
          refine ⟨⟨k + 1, by omega, by go_num, HE⟩, by simp [intOf]; omega⟩
      · as_aux_lemma =>
          obtain ⟨K1, K8⟩ := hK
          have hbt : ob = false := by rw [← HO.out, hon]; rfl
          subst hbt he
          have hTn' : ((T.strokes : Nat) : Int) = (S.strokes : Int) + 1 := by omega
          have HQ : Hid (∀ v, Kept [] w9 v → v.cell? ⟨wr.heap.size, 0, none⟩ = some (.int .i64 K) ∧ v.cell? ⟨wr.heap.size, 1, none⟩ = some (encStr s.name) ∧ v.cell? ⟨wr.heap.size, 2, none⟩ = some (encStr s.to) ∧ v.cell? ⟨wr.heap.size, 3, none⟩ = some (.int .i64 s.at_) ∧ v.cell? ⟨wr.heap.size, 4, none⟩ = some (.int .i64 s.n) ∧ v.cell? ⟨wr.heap.size, 5, none⟩ = some (.slice s.da s.dn s.dc) ∧ v.cell? ⟨wr.heap.size, 6, none⟩ = some (.int .i64 s.po) ∧ v.cell? ⟨wr.heap.size, 7, none⟩ = some (.int .i64 s.pf) ∧ v.cell? ⟨wr.heap.size, 8, none⟩ = some (.int .i64 s.pt) ∧ v.cell? ⟨wr.heap.size, 9, none⟩ = some (.slice s.pa s.pn s.pc)) := hide (fun v hv => ⟨hv.cellOf j0 (by simp), hv.cellOf j1 (by simp), hv.cellOf j2 (by simp), hv.cellOf j3 (by simp), hv.cellOf j4 (by simp), hv.cellOf j5 (by simp), hv.cellOf j6 (by simp), hv.cellOf j7 (by simp), hv.cellOf j8 (by simp), hv.cellOf j9 (by simp)⟩)
          have hsk1 : ∀ v, Calls Try.prog 14 #[.agg #[.int .i64 K, encStr s.name, encStr s.to, .int .i64 s.at_, .int .i64 s.n, .slice s.da s.dn s.dc, .int .i64 s.po, .int .i64 s.pf, .int .i64 s.pt, .slice s.pa s.pn s.pc]] v fun z w' => z = .returned (.bool true) ∧ Kept [] v w' := fun v => (hsk v).mono (fun z w' ⟨h1, h2⟩ => ⟨by rw [h1]; simp [K1, K8], h2⟩)
          have hsk2 := hsk1
          clear hon HO hwf hTn HD hsk
          by_cases k2 : K = 2 ∨ K = 3
          · have hu' := hu k2
            have HU := hide hrm
            clear hrm hu
            by_cases hle : (T.used : Int) ≤ r
            · have hle2 : ¬ r < (T.used : Int) := by omega
              clear hu' hle
              rcases k2 with rfl | rfl
              · go_wp2_with (first
                  | (go_at_call 14; refine (hsk1 _).mono ?_; rintro e w10 ⟨rfl, hk10⟩; have h10 := H9.out.kept hk10; have K10' := hide hk10; have H10 := hide h10; have hst10 := strokes_ax h10; rw [hTn'] at hst10; obtain ⟨m0, m1, m2, m3, m4, m5, m6, m7, m8, m9⟩ := HQ.out _ hk10; clear hsk1 hk10 h10 j0 j1 j2 j3 j4 j5 j6 j7 j8 j9)
                  | (go_at_call 14; refine (hsk2 _).mono ?_; rintro e w11 ⟨rfl, hk11⟩; have h11 := H10.out.kept hk11; have k11 := K10'.out.trans hk11 (by simp); have K11 := hide k11; have H11 := hide h11; have hst11 := strokes_ax h11; rw [hTn'] at hst11; have hof11 := off_ax h11; have hus := used_ax h11 (by omega); clear m0 m1 m2 m3 m4 m5 m6 m7 m8 m9; obtain ⟨m0, m1, m2, m3, m4, m5, m6, m7, m8, m9⟩ := HQ.out _ k11; have HE := HB.out _ h11; clear hsk2 hk11 h11 k11)
                  | (go_at_call 11; refine hst10.mono ?_; rintro e w' ⟨rfl, hw⟩; obtain rfl := hw.symm; clear hst10)
                  | (go_at_call 11; refine hst11.mono ?_; rintro e w' ⟨rfl, hw⟩; obtain rfl := hw.symm; clear hst11)
                  | (go_at_call 12; rw [hTo] at hof11; refine hof11.mono ?_; rintro e w' ⟨rfl, hw⟩; obtain rfl := hw.symm; clear hof11)
                  | (go_at_call 15; refine hus.mono ?_; rintro e w12 ⟨rfl, hk12⟩; have h12 := H11.out.kept hk12; have hus2 := used_ax h12 (by omega); have K12' := hide (K11.out.trans hk12 (by simp)); have H12 := hide h12; have HE2 := HB.out _ h12; clear hus hk12 h12 HE)
                  | (go_at_call 15; refine hus2.mono ?_; rintro e w13 ⟨rfl, hk13⟩; have h13 := H12.out.kept hk13; have k13 := K12'.out.trans hk13 (by simp); have htt := total_ok lo6 S.files.length lc6 S.files w13 rfl HM.out.1 HM.out.2.2.2.2.2 (HJ.out.1.kept k13); rw [used_total] at htt; have HE3 := HB.out _ h13; clear hus2 hk13 h13 k13 HE2)
                  | (go_at_call 16; refine htt.mono ?_; rintro e w' ⟨rfl, hw⟩; obtain rfl := hw.symm; clear htt))
                refine ⟨⟨k + 1, by omega, by go_num, HE2⟩, by simp [intOf]; omega⟩
              · go_wp2_with (first
                  | (go_at_call 14; refine (hsk1 _).mono ?_; rintro e w10 ⟨rfl, hk10⟩; have h10 := H9.out.kept hk10; have K10' := hide hk10; have H10 := hide h10; have hst10 := strokes_ax h10; rw [hTn'] at hst10; obtain ⟨m0, m1, m2, m3, m4, m5, m6, m7, m8, m9⟩ := HQ.out _ hk10; clear hsk1 hk10 h10 j0 j1 j2 j3 j4 j5 j6 j7 j8 j9)
                  | (go_at_call 14; refine (hsk2 _).mono ?_; rintro e w11 ⟨rfl, hk11⟩; have h11 := H10.out.kept hk11; have k11 := K10'.out.trans hk11 (by simp); have K11 := hide k11; have H11 := hide h11; have hst11 := strokes_ax h11; rw [hTn'] at hst11; have hof11 := off_ax h11; have hus := used_ax h11 (by omega); clear m0 m1 m2 m3 m4 m5 m6 m7 m8 m9; obtain ⟨m0, m1, m2, m3, m4, m5, m6, m7, m8, m9⟩ := HQ.out _ k11; have HE := HB.out _ h11; clear hsk2 hk11 h11 k11)
                  | (go_at_call 11; refine hst10.mono ?_; rintro e w' ⟨rfl, hw⟩; obtain rfl := hw.symm; clear hst10)
                  | (go_at_call 11; refine hst11.mono ?_; rintro e w' ⟨rfl, hw⟩; obtain rfl := hw.symm; clear hst11)
                  | (go_at_call 12; rw [hTo] at hof11; refine hof11.mono ?_; rintro e w' ⟨rfl, hw⟩; obtain rfl := hw.symm; clear hof11)
                  | (go_at_call 15; refine hus.mono ?_; rintro e w12 ⟨rfl, hk12⟩; have h12 := H11.out.kept hk12; have hus2 := used_ax h12 (by omega); have K12' := hide (K11.out.trans hk12 (by simp)); have H12 := hide h12; have HE2 := HB.out _ h12; clear hus hk12 h12 HE)
                  | (go_at_call 15; refine hus2.mono ?_; rintro e w13 ⟨rfl, hk13⟩; have h13 := H12.out.kept hk13; have k13 := K12'.out.trans hk13 (by simp); have htt := total_ok lo6 S.files.length lc6 S.files w13 rfl HM.out.1 HM.out.2.2.2.2.2 (HJ.out.1.kept k13); rw [used_total] at htt; have HE3 := HB.out _ h13; clear hus2 hk13 h13 k13 HE2)
                  | (go_at_call 16; refine htt.mono ?_; rintro e w' ⟨rfl, hw⟩; obtain rfl := hw.symm; clear htt))
                refine ⟨⟨k + 1, by omega, by go_num, HE2⟩, by simp [intOf]; omega⟩
            · have hle2 : r < (T.used : Int) := by omega
              have hlu : ¬ (S.used : Int) < (T.used : Int) := by have := HU.out; omega
              clear hu' hle
              rcases k2 with rfl | rfl
              · go_wp2_with (first
                  | (go_at_call 14; refine (hsk1 _).mono ?_; rintro e w10 ⟨rfl, hk10⟩; have h10 := H9.out.kept hk10; have K10' := hide hk10; have H10 := hide h10; have hst10 := strokes_ax h10; rw [hTn'] at hst10; obtain ⟨m0, m1, m2, m3, m4, m5, m6, m7, m8, m9⟩ := HQ.out _ hk10; clear hsk1 hk10 h10 j0 j1 j2 j3 j4 j5 j6 j7 j8 j9)
                  | (go_at_call 14; refine (hsk2 _).mono ?_; rintro e w11 ⟨rfl, hk11⟩; have h11 := H10.out.kept hk11; have k11 := K10'.out.trans hk11 (by simp); have K11 := hide k11; have H11 := hide h11; have hst11 := strokes_ax h11; rw [hTn'] at hst11; have hof11 := off_ax h11; have hus := used_ax h11 (by omega); clear m0 m1 m2 m3 m4 m5 m6 m7 m8 m9; obtain ⟨m0, m1, m2, m3, m4, m5, m6, m7, m8, m9⟩ := HQ.out _ k11; have HE := HB.out _ h11; clear hsk2 hk11 h11 k11)
                  | (go_at_call 11; refine hst10.mono ?_; rintro e w' ⟨rfl, hw⟩; obtain rfl := hw.symm; clear hst10)
                  | (go_at_call 11; refine hst11.mono ?_; rintro e w' ⟨rfl, hw⟩; obtain rfl := hw.symm; clear hst11)
                  | (go_at_call 12; rw [hTo] at hof11; refine hof11.mono ?_; rintro e w' ⟨rfl, hw⟩; obtain rfl := hw.symm; clear hof11)
                  | (go_at_call 15; refine hus.mono ?_; rintro e w12 ⟨rfl, hk12⟩; have h12 := H11.out.kept hk12; have hus2 := used_ax h12 (by omega); have K12' := hide (K11.out.trans hk12 (by simp)); have H12 := hide h12; have HE2 := HB.out _ h12; clear hus hk12 h12 HE)
                  | (go_at_call 15; refine hus2.mono ?_; rintro e w13 ⟨rfl, hk13⟩; have h13 := H12.out.kept hk13; have k13 := K12'.out.trans hk13 (by simp); have htt := total_ok lo6 S.files.length lc6 S.files w13 rfl HM.out.1 HM.out.2.2.2.2.2 (HJ.out.1.kept k13); rw [used_total] at htt; have HE3 := HB.out _ h13; clear hus2 hk13 h13 k13 HE2)
                  | (go_at_call 16; refine htt.mono ?_; rintro e w' ⟨rfl, hw⟩; obtain rfl := hw.symm; clear htt))
                refine ⟨⟨k + 1, by omega, by go_num, HE3⟩, by simp [intOf]; omega⟩
              · go_wp2_with (first
                  | (go_at_call 14; refine (hsk1 _).mono ?_; rintro e w10 ⟨rfl, hk10⟩; have h10 := H9.out.kept hk10; have K10' := hide hk10; have H10 := hide h10; have hst10 := strokes_ax h10; rw [hTn'] at hst10; obtain ⟨m0, m1, m2, m3, m4, m5, m6, m7, m8, m9⟩ := HQ.out _ hk10; clear hsk1 hk10 h10 j0 j1 j2 j3 j4 j5 j6 j7 j8 j9)
                  | (go_at_call 14; refine (hsk2 _).mono ?_; rintro e w11 ⟨rfl, hk11⟩; have h11 := H10.out.kept hk11; have k11 := K10'.out.trans hk11 (by simp); have K11 := hide k11; have H11 := hide h11; have hst11 := strokes_ax h11; rw [hTn'] at hst11; have hof11 := off_ax h11; have hus := used_ax h11 (by omega); clear m0 m1 m2 m3 m4 m5 m6 m7 m8 m9; obtain ⟨m0, m1, m2, m3, m4, m5, m6, m7, m8, m9⟩ := HQ.out _ k11; have HE := HB.out _ h11; clear hsk2 hk11 h11 k11)
                  | (go_at_call 11; refine hst10.mono ?_; rintro e w' ⟨rfl, hw⟩; obtain rfl := hw.symm; clear hst10)
                  | (go_at_call 11; refine hst11.mono ?_; rintro e w' ⟨rfl, hw⟩; obtain rfl := hw.symm; clear hst11)
                  | (go_at_call 12; rw [hTo] at hof11; refine hof11.mono ?_; rintro e w' ⟨rfl, hw⟩; obtain rfl := hw.symm; clear hof11)
                  | (go_at_call 15; refine hus.mono ?_; rintro e w12 ⟨rfl, hk12⟩; have h12 := H11.out.kept hk12; have hus2 := used_ax h12 (by omega); have K12' := hide (K11.out.trans hk12 (by simp)); have H12 := hide h12; have HE2 := HB.out _ h12; clear hus hk12 h12 HE)
                  | (go_at_call 15; refine hus2.mono ?_; rintro e w13 ⟨rfl, hk13⟩; have h13 := H12.out.kept hk13; have k13 := K12'.out.trans hk13 (by simp); have htt := total_ok lo6 S.files.length lc6 S.files w13 rfl HM.out.1 HM.out.2.2.2.2.2 (HJ.out.1.kept k13); rw [used_total] at htt; have HE3 := HB.out _ h13; clear hus2 hk13 h13 k13 HE2)
                  | (go_at_call 16; refine htt.mono ?_; rintro e w' ⟨rfl, hw⟩; obtain rfl := hw.symm; clear htt))
                refine ⟨⟨k + 1, by omega, by go_num, HE3⟩, by simp [intOf]; omega⟩
          · have n2 : ¬ K = 2 := by omega
            have n3 : ¬ K = 3 := by omega
            have K12 : ¬ K = 12 := by omega
            clear k2 hu hrm
            go_wp2_with (first
              | (go_at_call 14; refine (hsk1 _).mono ?_; rintro e w10 ⟨rfl, hk10⟩; have h10 := H9.out.kept hk10; have K10' := hide hk10; have H10 := hide h10; have hst10 := strokes_ax h10; rw [hTn'] at hst10; obtain ⟨m0, m1, m2, m3, m4, m5, m6, m7, m8, m9⟩ := HQ.out _ hk10; clear hsk1 hk10 h10 j0 j1 j2 j3 j4 j5 j6 j7 j8 j9)
              | (go_at_call 14; refine (hsk2 _).mono ?_; rintro e w11 ⟨rfl, hk11⟩; have h11 := H10.out.kept hk11; have k11 := K10'.out.trans hk11 (by simp); have K11 := hide k11; have H11 := hide h11; have hst11 := strokes_ax h11; rw [hTn'] at hst11; have hof11 := off_ax h11; have hus := used_ax h11 (by omega); clear m0 m1 m2 m3 m4 m5 m6 m7 m8 m9; obtain ⟨m0, m1, m2, m3, m4, m5, m6, m7, m8, m9⟩ := HQ.out _ k11; have HE := HB.out _ h11; clear hsk2 hk11 h11 k11)
              | (go_at_call 11; refine hst10.mono ?_; rintro e w' ⟨rfl, hw⟩; obtain rfl := hw.symm; clear hst10)
              | (go_at_call 11; refine hst11.mono ?_; rintro e w' ⟨rfl, hw⟩; obtain rfl := hw.symm; clear hst11)
              | (go_at_call 12; rw [hTo] at hof11; refine hof11.mono ?_; rintro e w' ⟨rfl, hw⟩; obtain rfl := hw.symm; clear hof11)
              | (go_at_call 15; refine hus.mono ?_; rintro e w12 ⟨rfl, hk12⟩; have h12 := H11.out.kept hk12; have hus2 := used_ax h12 (by omega); have K12' := hide (K11.out.trans hk12 (by simp)); have H12 := hide h12; have HE2 := HB.out _ h12; clear hus hk12 h12 HE)
              | (go_at_call 15; refine hus2.mono ?_; rintro e w13 ⟨rfl, hk13⟩; have h13 := H12.out.kept hk13; have k13 := K12'.out.trans hk13 (by simp); have htt := total_ok lo6 S.files.length lc6 S.files w13 rfl HM.out.1 HM.out.2.2.2.2.2 (HJ.out.1.kept k13); rw [used_total] at htt; have HE3 := HB.out _ h13; clear hus2 hk13 h13 k13 HE2)
              | (go_at_call 16; refine htt.mono ?_; rintro e w' ⟨rfl, hw⟩; obtain rfl := hw.symm; clear htt))
            refine ⟨⟨k + 1, by omega, by go_num, HE⟩, by simp [intOf]; omega⟩
      · as_aux_lemma =>
          subst he
          have hTn' := hTn
          have n2 : ¬ K = 2 := by omega
          have n3 : ¬ K = 3 := by omega
          have HQ : Hid (∀ v, Kept [] w9 v → v.cell? ⟨wr.heap.size, 0, none⟩ = some (.int .i64 K) ∧ v.cell? ⟨wr.heap.size, 1, none⟩ = some (encStr s.name) ∧ v.cell? ⟨wr.heap.size, 2, none⟩ = some (encStr s.to) ∧ v.cell? ⟨wr.heap.size, 3, none⟩ = some (.int .i64 s.at_) ∧ v.cell? ⟨wr.heap.size, 4, none⟩ = some (.int .i64 s.n) ∧ v.cell? ⟨wr.heap.size, 5, none⟩ = some (.slice s.da s.dn s.dc) ∧ v.cell? ⟨wr.heap.size, 6, none⟩ = some (.int .i64 s.po) ∧ v.cell? ⟨wr.heap.size, 7, none⟩ = some (.int .i64 s.pf) ∧ v.cell? ⟨wr.heap.size, 8, none⟩ = some (.int .i64 s.pt) ∧ v.cell? ⟨wr.heap.size, 9, none⟩ = some (.slice s.pa s.pn s.pc)) := hide (fun v hv => ⟨hv.cellOf j0 (by simp), hv.cellOf j1 (by simp), hv.cellOf j2 (by simp), hv.cellOf j3 (by simp), hv.cellOf j4 (by simp), hv.cellOf j5 (by simp), hv.cellOf j6 (by simp), hv.cellOf j7 (by simp), hv.cellOf j8 (by simp), hv.cellOf j9 (by simp)⟩)
          have hsk1 : ∀ v, Calls Try.prog 14 #[.agg #[.int .i64 K, encStr s.name, encStr s.to, .int .i64 s.at_, .int .i64 s.n, .slice s.da s.dn s.dc, .int .i64 s.po, .int .i64 s.pf, .int .i64 s.pt, .slice s.pa s.pn s.pc]] v fun z w' => z = .returned (.bool false) ∧ Kept [] v w' := fun v => (hsk v).mono (fun z w' ⟨h1, h2⟩ => ⟨by rw [h1]; simp; omega, h2⟩)
          have hsk2 := hsk1
          by_cases hob2 : ob = true
          · have hoff : S.on = false := by have := HO.out; rw [hob2] at this; simpa using this
            subst hob2
            rcases hh with hh | hh | hh
            · rw [hoff] at hh
              exact absurd hh (by decide)
            · have q1 : 1 ≤ K := by omega
              have q2 : ¬ K ≤ 10 := by omega
              clear HO hwf hTn HD hsk hrm hK hh hoff
              go_wp2_with (first
                | (go_at_call 14; refine (hsk1 _).mono ?_; rintro e w10 ⟨rfl, hk10⟩; have h10 := H9.out.kept hk10; have K10' := hide hk10; have H10 := hide h10; obtain ⟨m0, m1, m2, m3, m4, m5, m6, m7, m8, m9⟩ := HQ.out _ hk10; clear hsk1 hk10 h10 j0 j1 j2 j3 j4 j5 j6 j7 j8 j9)
                | (go_at_call 14; refine (hsk2 _).mono ?_; rintro e w11 ⟨rfl, hk11⟩; have h11 := H10.out.kept hk11; have k11 := K10'.out.trans hk11 (by simp); have K11 := hide k11; have H11 := hide h11; have hst11 := strokes_ax h11; rw [hTn'] at hst11; have hof11 := off_ax h11; have hus := used_ax h11 (by omega); clear m0 m1 m2 m3 m4 m5 m6 m7 m8 m9; obtain ⟨m0, m1, m2, m3, m4, m5, m6, m7, m8, m9⟩ := HQ.out _ k11; have HE := HB.out _ h11; clear hsk2 hk11 h11 k11)
                | (go_at_call 11; refine hst11.mono ?_; rintro e w' ⟨rfl, hw⟩; obtain rfl := hw.symm; clear hst11)
                | (go_at_call 12; rw [hTo] at hof11; refine hof11.mono ?_; rintro e w' ⟨rfl, hw⟩; obtain rfl := hw.symm; clear hof11)
                | (go_at_call 15; refine hus.mono ?_; rintro e w12 ⟨rfl, hk12⟩; have h12 := H11.out.kept hk12; have hus2 := used_ax h12 (by omega); have K12' := hide (K11.out.trans hk12 (by simp)); have H12 := hide h12; have HE2 := HB.out _ h12; clear hus hk12 h12 HE)
                | (go_at_call 15; refine hus2.mono ?_; rintro e w13 ⟨rfl, hk13⟩; have h13 := H12.out.kept hk13; have k13 := K12'.out.trans hk13 (by simp); have htt := total_ok lo6 S.files.length lc6 S.files w13 rfl HM.out.1 HM.out.2.2.2.2.2 (HJ.out.1.kept k13); rw [used_total] at htt; have HE3 := HB.out _ h13; clear hus2 hk13 h13 k13 HE2)
                | (go_at_call 16; refine htt.mono ?_; rintro e w' ⟨rfl, hw⟩; obtain rfl := hw.symm; clear htt))
              refine ⟨⟨k + 1, by omega, by go_num, HE⟩, by simp [intOf]; omega⟩
            · have q1 : ¬ 1 ≤ K := by omega
              clear HO hwf hTn HD hsk hrm hK hh hoff
              go_wp2_with (first
                | (go_at_call 14; refine (hsk1 _).mono ?_; rintro e w10 ⟨rfl, hk10⟩; have h10 := H9.out.kept hk10; have K10' := hide hk10; have H10 := hide h10; obtain ⟨m0, m1, m2, m3, m4, m5, m6, m7, m8, m9⟩ := HQ.out _ hk10; clear hsk1 hk10 h10 j0 j1 j2 j3 j4 j5 j6 j7 j8 j9)
                | (go_at_call 14; refine (hsk2 _).mono ?_; rintro e w11 ⟨rfl, hk11⟩; have h11 := H10.out.kept hk11; have k11 := K10'.out.trans hk11 (by simp); have K11 := hide k11; have H11 := hide h11; have hst11 := strokes_ax h11; rw [hTn'] at hst11; have hof11 := off_ax h11; have hus := used_ax h11 (by omega); clear m0 m1 m2 m3 m4 m5 m6 m7 m8 m9; obtain ⟨m0, m1, m2, m3, m4, m5, m6, m7, m8, m9⟩ := HQ.out _ k11; have HE := HB.out _ h11; clear hsk2 hk11 h11 k11)
                | (go_at_call 11; refine hst11.mono ?_; rintro e w' ⟨rfl, hw⟩; obtain rfl := hw.symm; clear hst11)
                | (go_at_call 12; rw [hTo] at hof11; refine hof11.mono ?_; rintro e w' ⟨rfl, hw⟩; obtain rfl := hw.symm; clear hof11)
                | (go_at_call 15; refine hus.mono ?_; rintro e w12 ⟨rfl, hk12⟩; have h12 := H11.out.kept hk12; have hus2 := used_ax h12 (by omega); have K12' := hide (K11.out.trans hk12 (by simp)); have H12 := hide h12; have HE2 := HB.out _ h12; clear hus hk12 h12 HE)
                | (go_at_call 15; refine hus2.mono ?_; rintro e w13 ⟨rfl, hk13⟩; have h13 := H12.out.kept hk13; have k13 := K12'.out.trans hk13 (by simp); have htt := total_ok lo6 S.files.length lc6 S.files w13 rfl HM.out.1 HM.out.2.2.2.2.2 (HJ.out.1.kept k13); rw [used_total] at htt; have HE3 := HB.out _ h13; clear hus2 hk13 h13 k13 HE2)
                | (go_at_call 16; refine htt.mono ?_; rintro e w' ⟨rfl, hw⟩; obtain rfl := hw.symm; clear htt))
              refine ⟨⟨k + 1, by omega, by go_num, HE⟩, by simp [intOf]; omega⟩
          · simp only [Bool.not_eq_true] at hob2
            subst hob2
            clear HO hwf hTn HD hsk hrm hK hh
            go_wp2_with (first
              | (go_at_call 14; refine (hsk1 _).mono ?_; rintro e w10 ⟨rfl, hk10⟩; have h10 := H9.out.kept hk10; have K10' := hide hk10; have H10 := hide h10; obtain ⟨m0, m1, m2, m3, m4, m5, m6, m7, m8, m9⟩ := HQ.out _ hk10; clear hsk1 hk10 h10 j0 j1 j2 j3 j4 j5 j6 j7 j8 j9)
              | (go_at_call 14; refine (hsk2 _).mono ?_; rintro e w11 ⟨rfl, hk11⟩; have h11 := H10.out.kept hk11; have k11 := K10'.out.trans hk11 (by simp); have K11 := hide k11; have H11 := hide h11; have hst11 := strokes_ax h11; rw [hTn'] at hst11; have hof11 := off_ax h11; have hus := used_ax h11 (by omega); clear m0 m1 m2 m3 m4 m5 m6 m7 m8 m9; obtain ⟨m0, m1, m2, m3, m4, m5, m6, m7, m8, m9⟩ := HQ.out _ k11; have HE := HB.out _ h11; clear hsk2 hk11 h11 k11)
              | (go_at_call 11; refine hst11.mono ?_; rintro e w' ⟨rfl, hw⟩; obtain rfl := hw.symm; clear hst11)
              | (go_at_call 12; rw [hTo] at hof11; refine hof11.mono ?_; rintro e w' ⟨rfl, hw⟩; obtain rfl := hw.symm; clear hof11)
              | (go_at_call 15; refine hus.mono ?_; rintro e w12 ⟨rfl, hk12⟩; have h12 := H11.out.kept hk12; have hus2 := used_ax h12 (by omega); have K12' := hide (K11.out.trans hk12 (by simp)); have H12 := hide h12; have HE2 := HB.out _ h12; clear hus hk12 h12 HE)
              | (go_at_call 15; refine hus2.mono ?_; rintro e w13 ⟨rfl, hk13⟩; have h13 := H12.out.kept hk13; have k13 := K12'.out.trans hk13 (by simp); have htt := total_ok lo6 S.files.length lc6 S.files w13 rfl HM.out.1 HM.out.2.2.2.2.2 (HJ.out.1.kept k13); rw [used_total] at htt; have HE3 := HB.out _ h13; clear hus2 hk13 h13 k13 HE2)
              | (go_at_call 16; refine htt.mono ?_; rintro e w' ⟨rfl, hw⟩; obtain rfl := hw.symm; clear htt))
            refine ⟨⟨k + 1, by omega, by go_num, HE⟩, by simp [intOf]; omega⟩
      · as_aux_lemma =>
          subst he
          have hTn' : ((T.strokes : Nat) : Int) = 0 := by omega
          have n2 : ¬ K = 2 := by omega
          have n3 : ¬ K = 3 := by omega
          have q1 : 1 ≤ K := by omega
          have q2 : ¬ K ≤ 10 := by omega
          have q3 : (K == 12) = true := by simp [hK]
          have q4 : (K != 12) = false := by simp [hK]
          have HQ : Hid (∀ v, Kept [] w9 v → v.cell? ⟨wr.heap.size, 0, none⟩ = some (.int .i64 K) ∧ v.cell? ⟨wr.heap.size, 1, none⟩ = some (encStr s.name) ∧ v.cell? ⟨wr.heap.size, 2, none⟩ = some (encStr s.to) ∧ v.cell? ⟨wr.heap.size, 3, none⟩ = some (.int .i64 s.at_) ∧ v.cell? ⟨wr.heap.size, 4, none⟩ = some (.int .i64 s.n) ∧ v.cell? ⟨wr.heap.size, 5, none⟩ = some (.slice s.da s.dn s.dc) ∧ v.cell? ⟨wr.heap.size, 6, none⟩ = some (.int .i64 s.po) ∧ v.cell? ⟨wr.heap.size, 7, none⟩ = some (.int .i64 s.pf) ∧ v.cell? ⟨wr.heap.size, 8, none⟩ = some (.int .i64 s.pt) ∧ v.cell? ⟨wr.heap.size, 9, none⟩ = some (.slice s.pa s.pn s.pc)) := hide (fun v hv => ⟨hv.cellOf j0 (by simp), hv.cellOf j1 (by simp), hv.cellOf j2 (by simp), hv.cellOf j3 (by simp), hv.cellOf j4 (by simp), hv.cellOf j5 (by simp), hv.cellOf j6 (by simp), hv.cellOf j7 (by simp), hv.cellOf j8 (by simp), hv.cellOf j9 (by simp)⟩)
          have hsk1 : ∀ v, Calls Try.prog 14 #[.agg #[.int .i64 K, encStr s.name, encStr s.to, .int .i64 s.at_, .int .i64 s.n, .slice s.da s.dn s.dc, .int .i64 s.po, .int .i64 s.pf, .int .i64 s.pt, .slice s.pa s.pn s.pc]] v fun z w' => z = .returned (.bool false) ∧ Kept [] v w' := fun v => (hsk v).mono (fun z w' ⟨h1, h2⟩ => ⟨by rw [h1]; simp; omega, h2⟩)
          have hsk2 := hsk1
          by_cases hob2 : ob = true
          · subst hob2
            clear HO hwf hTn HD hsk hrm hK
            go_wp2_with (first
              | (go_at_call 14; refine (hsk1 _).mono ?_; rintro e w10 ⟨rfl, hk10⟩; have h10 := H9.out.kept hk10; have K10' := hide hk10; have H10 := hide h10; obtain ⟨m0, m1, m2, m3, m4, m5, m6, m7, m8, m9⟩ := HQ.out _ hk10; clear hsk1 hk10 h10 j0 j1 j2 j3 j4 j5 j6 j7 j8 j9)
              | (go_at_call 14; refine (hsk2 _).mono ?_; rintro e w11 ⟨rfl, hk11⟩; have h11 := H10.out.kept hk11; have k11 := K10'.out.trans hk11 (by simp); have K11 := hide k11; have H11 := hide h11; have hst11 := strokes_ax h11; rw [hTn'] at hst11; have hof11 := off_ax h11; have hus := used_ax h11 (by omega); clear m0 m1 m2 m3 m4 m5 m6 m7 m8 m9; obtain ⟨m0, m1, m2, m3, m4, m5, m6, m7, m8, m9⟩ := HQ.out _ k11; have HE := HB.out _ h11; clear hsk2 hk11 h11 k11)
              | (go_at_call 11; refine hst11.mono ?_; rintro e w' ⟨rfl, hw⟩; obtain rfl := hw.symm; clear hst11)
              | (go_at_call 12; rw [hTo] at hof11; refine hof11.mono ?_; rintro e w' ⟨rfl, hw⟩; obtain rfl := hw.symm; clear hof11)
              | (go_at_call 15; refine hus.mono ?_; rintro e w12 ⟨rfl, hk12⟩; have h12 := H11.out.kept hk12; have hus2 := used_ax h12 (by omega); have K12' := hide (K11.out.trans hk12 (by simp)); have H12 := hide h12; have HE2 := HB.out _ h12; clear hus hk12 h12 HE)
              | (go_at_call 15; refine hus2.mono ?_; rintro e w13 ⟨rfl, hk13⟩; have h13 := H12.out.kept hk13; have k13 := K12'.out.trans hk13 (by simp); have htt := total_ok lo6 S.files.length lc6 S.files w13 rfl HM.out.1 HM.out.2.2.2.2.2 (HJ.out.1.kept k13); rw [used_total] at htt; have HE3 := HB.out _ h13; clear hus2 hk13 h13 k13 HE2)
              | (go_at_call 16; refine htt.mono ?_; rintro e w' ⟨rfl, hw⟩; obtain rfl := hw.symm; clear htt))
            refine ⟨⟨k + 1, by omega, by go_num, HE⟩, by simp [intOf]; omega⟩
          · simp only [Bool.not_eq_true] at hob2
            subst hob2
            clear HO hwf hTn HD hsk hrm hK
            go_wp2_with (first
              | (go_at_call 14; refine (hsk1 _).mono ?_; rintro e w10 ⟨rfl, hk10⟩; have h10 := H9.out.kept hk10; have K10' := hide hk10; have H10 := hide h10; obtain ⟨m0, m1, m2, m3, m4, m5, m6, m7, m8, m9⟩ := HQ.out _ hk10; clear hsk1 hk10 h10 j0 j1 j2 j3 j4 j5 j6 j7 j8 j9)
              | (go_at_call 14; refine (hsk2 _).mono ?_; rintro e w11 ⟨rfl, hk11⟩; have h11 := H10.out.kept hk11; have k11 := K10'.out.trans hk11 (by simp); have K11 := hide k11; have H11 := hide h11; have hst11 := strokes_ax h11; rw [hTn'] at hst11; have hof11 := off_ax h11; have hus := used_ax h11 (by omega); clear m0 m1 m2 m3 m4 m5 m6 m7 m8 m9; obtain ⟨m0, m1, m2, m3, m4, m5, m6, m7, m8, m9⟩ := HQ.out _ k11; have HE := HB.out _ h11; clear hsk2 hk11 h11 k11)
              | (go_at_call 11; refine hst11.mono ?_; rintro e w' ⟨rfl, hw⟩; obtain rfl := hw.symm; clear hst11)
              | (go_at_call 12; rw [hTo] at hof11; refine hof11.mono ?_; rintro e w' ⟨rfl, hw⟩; obtain rfl := hw.symm; clear hof11)
              | (go_at_call 15; refine hus.mono ?_; rintro e w12 ⟨rfl, hk12⟩; have h12 := H11.out.kept hk12; have hus2 := used_ax h12 (by omega); have K12' := hide (K11.out.trans hk12 (by simp)); have H12 := hide h12; have HE2 := HB.out _ h12; clear hus hk12 h12 HE)
              | (go_at_call 15; refine hus2.mono ?_; rintro e w13 ⟨rfl, hk13⟩; have h13 := H12.out.kept hk13; have k13 := K12'.out.trans hk13 (by simp); have htt := total_ok lo6 S.files.length lc6 S.files w13 rfl HM.out.1 HM.out.2.2.2.2.2 (HJ.out.1.kept k13); rw [used_total] at htt; have HE3 := HB.out _ h13; clear hus2 hk13 h13 k13 HE2)
              | (go_at_call 16; refine htt.mono ?_; rintro e w' ⟨rfl, hw⟩; obtain rfl := hw.symm; clear htt))
            refine ⟨⟨k + 1, by omega, by go_num, HE⟩, by simp [intOf]; omega⟩
    · have hkn : k = n := by omega
      subst hkn
      have HK := hide (hk1.trans HA.out.old (by simp))
      go_wp2_with (go_at_call 7; refine (known_ok _).mono ?_; rintro e w14 ⟨rfl, hk14⟩; have HK14 := hide hk14; clear hk14)
      go_ret
      exact ⟨rfl, (HK.out.trans HK14.out (by simp)).below (Nat.le_refl _) (by simp)⟩
end Go.Proofs.Ytcmiehfahdbffab
