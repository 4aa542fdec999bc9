/-
  Contract: freightlaw5.written. (Written by tools/tc.py.)
-/
import Derived.Test.YtlokekjljibmbaaTb
import Derived.Test.YtlokekjljibmbaaOl
import Derived.Deep.RegionHeld3
namespace Go.Proofs.Ytlokekjljibmbaa
open Go.RowKit Dsk
set_option linter.unusedVariables false
set_option linter.unusedSimpArgs false
theorem own_set {w : World} {B : Nat} {e : TypeId} {g m c k : Nat} {xs : List Value} (h : w.ownsRow B e 1 (.slice (some ⟨g, 0, none⟩) m c) m xs) (v : Value) : (w.setCell ⟨g, k, none⟩ v).ownsRow B e 1 (.slice (some ⟨g, 0, none⟩) m c) m (xs.set k v) := by
  refine ⟨by rw [List.length_set]; exact h.1, ?_⟩
  rcases h.2 with ⟨e1, _⟩ | ⟨g', cap, cur, e1, hB, hg, hn, hc, hs, ht⟩
  · cases e1
  · injection e1 with e1 _ e3
    injection e1 with e1
    injection e1 with e1
    subst e1 e3
    have hx := heap_setCell_same w g k cur e v hg
    refine .inr ⟨g, c, cur.setIfInBounds k v, rfl, hB, hx, hn, hc, by simpa using hs, ?_⟩
    rw [← ht, Array.toList_setIfInBounds, List.take_set]
/-- i bytes have been written. -/
def wrote (xs : By) (a : Nat) (d : By) (i : Nat) : By := xs.take a ++ d.take i ++ xs.drop (a + i)
theorem wrote_len (xs : By) (a : Nat) (d : By) (i : Nat) (ha : a ≤ xs.length) (hi : i ≤ d.length) : (wrote xs a d i).length = max xs.length (a + i) := by
  simp only [wrote, List.length_append, List.length_take, List.length_drop]
  omega
theorem wrote_over (xs : By) (a : Nat) (d : By) (i : Nat) (ha : a ≤ xs.length) (hi : i < d.length) (h : a + i < xs.length) : (wrote xs a d i).set (a + i) (d.getD i 0) = wrote xs a d (i + 1) := by
  have hd : d[i]? = some (d.getD i 0) := by rw [List.getD_eq_getElem?_getD, List.getElem?_eq_getElem hi]; rfl
  unfold wrote
  rw [List.take_add_one, hd, List.set_append_right _ _ (by simp; omega)]
  have e1 : a + i - (xs.take a ++ d.take i).length = 0 := by simp; omega
  rw [e1, List.drop_eq_getElem_cons h, List.set_cons_zero, ← Nat.add_assoc]
  simp
theorem wrote_app (xs : By) (a : Nat) (d : By) (i : Nat) (ha : a ≤ xs.length) (hi : i < d.length) (h : ¬ a + i < xs.length) : wrote xs a d i ++ [d.getD i 0] = wrote xs a d (i + 1) := by
  have hd : d[i]? = some (d.getD i 0) := by rw [List.getD_eq_getElem?_getD, List.getElem?_eq_getElem hi]; rfl
  unfold wrote
  rw [List.take_add_one, hd, List.drop_of_length_le (by omega), List.drop_of_length_le (by omega)]
  simp
theorem wrote_zero (xs : By) (a : Nat) (d : By) : wrote xs a d 0 = xs := by simp [wrote]
theorem wrote_ch (xs : By) (a : Nat) (d : By) (u : Nat) (hu : u ≤ d.length) : (Ch.wr a d).apply xs u = wrote xs a d u := by
  simp only [Ch.apply, wrote, List.length_take]
  rw [Nat.min_eq_left hu]

set_option maxHeartbeats 4000000 in
set_option maxRecDepth 100000 in
theorem writtenW_ok (bo : Option Addr) (n cap : Nat) (xs : By) (at_ : Nat) (da : Option Addr) (dn dc : Nat) (d : By) (u : Nat) (w : World) (hl : xs.length = n) (hs : Sl w bo xs) (h0 : bo = none → n = 0 ∧ cap = 0) (hd : InB w da dn dc d) (ha : at_ ≤ n) (hu : u ≤ dn) (hn : n ≤ 1000000) (hdn : dn ≤ 1000000) :
    Calls Try.prog 13 #[.slice bo n cap, .agg #[.bool false, .int .i64 at_, .slice da dn dc], .int .i64 u] w fun e w' => ∃ g m c, e = .returned (.slice (some ⟨g, 0, none⟩) m c) ∧ (wrote xs at_ d u).length = m ∧ m ≤ c ∧ Sl w' (some ⟨g, 0, none⟩) (wrote xs at_ d u) ∧ Kept [] w w' ∧ w.heap.size ≤ g := by
  obtain ⟨w1, hw1⟩ : ∃ w1, w1 = w.alloc (.cells #[.bool false, .int .i64 at_, .slice da dn dc] 25) := ⟨_, rfl⟩
  have hk1 : Kept [] w w1 := by rw [hw1]; exact (Kept.refl [] w).alloc _
  have hb1 : w1.heap[w.heap.size]? = some (.cells #[.bool false, .int .i64 at_, .slice da dn dc] 25 (0, 0)) := by rw [hw1]; exact (MapKept.heap_alloc w _).1
  have i0 : w1.cell? ⟨w.heap.size, 0, none⟩ = some (.bool false) := by rw [cell_of_row w1 _ 0 _ _ _ hb1]; rfl
  have i1 : w1.cell? ⟨w.heap.size, 1, none⟩ = some (.int .i64 at_) := by rw [cell_of_row w1 _ 1 _ _ _ hb1]; rfl
  have i2 : w1.cell? ⟨w.heap.size, 2, none⟩ = some (.slice da dn dc) := by rw [cell_of_row w1 _ 2 _ _ _ hb1]; rfl
  have hq : w.heap.size < w1.heap.size := (Array.getElem?_eq_some_iff.1 hb1).1
  obtain ⟨g, c', w2, hap, hown, hk2, hg2⟩ := run_fresh w1 22 22 5 Try.underlying22 Try.infoByte rfl bo n cap (bys xs) (by rw [bys_length]; exact hl) (fun j u hj => by
    obtain ⟨hj', rfl⟩ := bys_get hj
    obtain ⟨b, off, e, hc⟩ := hs j hj'
    exact ⟨b, off, e, hk1.cellOf hc (by simp)⟩) h0 (bys_oneCell xs) (by unfold maxLen; omega) (by omega)
  have HD := hide hd
  have HL := hide hl
  have HC : Hid (Kept [] w1 w2 ∧ w1.heap.size ≤ g) := hide ⟨hk2, hg2⟩
  have HO := hide hown
  clear hb1 hs hd hl hown hk2 hg2
  go_enter Try.func13, Try.ntmps13
  go_upto_region 1 with (fail)
  rw [← hw1]
  clear hw1
  go_upto_region 7 with (at_builtin; refine wpList_app_run rfl _ _ 22 22 rfl _ _ rfl rfl _ _ hap ?_; clear hap)
  generalize hqe : w.heap.size = q at *
  go_loopw [8, 7] (fun i v wr => ∃ k : Nat, k ≤ u ∧ i = .int .i64 k ∧ ∃ g m c, v = .slice (some ⟨g, 0, none⟩) m c ∧ m = max n (at_ + k) ∧ Hid (wr.ownsRow 0 5 1 (.slice (some ⟨g, 0, none⟩) m c) m (bys (wrote xs at_ d k)) ∧ Kept [] w1 wr ∧ w1.heap.size ≤ g)) (fun i _ wr => u - (intOf i).toNat)
  case atStart => exact ⟨0, Nat.zero_le _, rfl, g, n, c', rfl, by omega, hide ⟨by rw [wrote_zero]; exact HO.out, HC.out.1, HC.out.2⟩⟩
  case round =>
    clear HO HC
    obtain ⟨k, hk, rfl, g1, m1, c1, rfl, hm1, HR⟩ := hrel
    have hkr := HR.out.2.1
    have HM := hide hm1
    have hmb : m1 ≤ 2000000 := by omega
    have j0 := hkr.cellOf i0 (by simp)
    have j1 := hkr.cellOf i1 (by simp)
    have j2 := hkr.cellOf i2 (by simp)
    by_cases hlt : k < u
    · have hdl : d.length = dn := HD.out.len
      have hkd : k < d.length := by omega
      obtain ⟨db, doff, rfl, hdc⟩ := HD.out.sl k hkd
      have hdc1 := hk1.cellOf hdc (by simp)
      generalize hde : d.getD k 0 = dk at *
      have hkn : (k : Int) < (dn : Int) := by omega
      have hku : (k : Int) < (u : Int) := by omega
      have hk0 : (0 : Int) ≤ (k : Int) := by omega
      by_cases ho : at_ + k < n
      · have hmn : m1 = n := by omega
        clear hm1
        subst hmn
        have hot : (at_ : Int) + (k : Int) < (m1 : Int) := by omega
        have ho0 : (0 : Int) ≤ (at_ : Int) + (k : Int) := by omega
        have HS := hide (own_set (k := at_ + k) HR.out.1 (.int .u8 dk.toNat))
        obtain ⟨oc, hoc⟩ : ∃ oc, wr.cell? ⟨g1, at_ + k, none⟩ = some oc := by
          have hlen := wrote_len xs at_ d k (by rw [HL.out]; exact ha) (by omega)
          have hlt3 : at_ + k < (bys (wrote xs at_ d k)).length := by rw [bys_length, hlen, HL.out]; omega
          have := HR.out.1.cells (g := g1) rfl (at_ + k) _ (List.getElem?_eq_getElem hlt3)
          rw [add0] at this
          exact ⟨_, this⟩
        have hof : wr.frozen? ⟨g1, at_ + k, none⟩ = false := by
          rcases HR.out.1.2 with ⟨e1, _⟩ | ⟨g', cap', cur, e1, _, hg, _⟩
          · cases e1
          · injection e1 with e1 _ _
            injection e1 with e1
            injection e1 with e1
            subst e1
            exact frozen_of_row wr g1 (at_ + k) _ _ hg
        have HW := hide (wrote_over xs at_ d k (by rw [HL.out]; exact ha) hkd (by rw [HL.out]; exact ho))
        rw [hde] at HW
        have hgne : w1.heap.size ≤ g1 := HR.out.2.2
        clear hdc hde
        go_upto_region 10 with (fail)
        refine wp_region_held_drew (S := fun v => Kept [] w1 v ∧ ((∃ oc, v.cell? ⟨g1, at_ + k, none⟩ = some oc) ∧ v.frozen? ⟨g1, at_ + k, none⟩ = false)) (by kernel_rfl) ⟨hkr.drew, ⟨oc, hoc⟩, hof⟩ (fun h0 => ?_)
        have HS0 : Hid (∀ v, v = wr.drew → (v.setCell ⟨g1, at_ + k, none⟩ (.int .u8 dk.toNat)).ownsRow 0 5 1 (.slice (some ⟨g1, 0, none⟩) m1 c1) m1 (bys (wrote xs at_ d (k + 1))) ∧ Kept [] w1 (v.setCell ⟨g1, at_ + k, none⟩ (.int .u8 dk.toNat))) := hide (fun v hv => by
          subst hv
          have hod : wr.drew.ownsRow 0 5 1 (.slice (some ⟨g1, 0, none⟩) m1 c1) m1 (bys (wrote xs at_ d k)) := own_keeps HR.out.1 (Keep.refl (fun _ => False) wr).drew (fun _ _ h => h)
          have h5 := own_set (k := at_ + k) hod (.int .u8 dk.toNat)
          rw [bys_set, HW.out] at h5
          refine ⟨h5, ?_⟩
          have hk6 : Keep (· = g1) w1 (wr.drew.setCell ⟨g1, at_ + k, none⟩ (.int .u8 dk.toNat)) := ((Keep.ofNone (F := (· = g1)) hkr).drew).setCell (p := ⟨g1, at_ + k, none⟩) (fun _ => rfl) _
          exact ⟨hk6.os, hk6.tape, hk6.output, hk6.size, fun i hi _ => hk6.block i hi (by omega)⟩)
        have hve : wr.drew = wr.drew := rfl
        generalize hv0 : World.drew wr = v0 at h0 ⊢
        clear HS HR
        refine wpAnyH_take (i := 0) (v := (.slice (some ⟨g1, 0, none⟩) m1 c1)) rfl (by kernel_rfl) (by kernel_rfl) (by kernel_rfl) (fun _ _ _ h => h) (Or.inl ⟨by rfl, fun w hSw => by go_simp⟩) h0 ?_
        try simp only [List.getElem_toArray, List.getElem_cons_zero, List.getElem_cons_succ, Act.put, List.setIfInBounds_toArray, List.set_cons_zero, List.set_cons_succ]
        refine wpAnyH_take (i := 1) (v := (.pointer (some ⟨q, 1, none⟩))) rfl (by kernel_rfl) (by kernel_rfl) (by kernel_rfl) (fun _ _ _ h => h) (Or.inl ⟨by rfl, fun w hSw => by go_simp⟩) h0 ?_
        try simp only [List.getElem_toArray, List.getElem_cons_zero, List.getElem_cons_succ, Act.put, List.setIfInBounds_toArray, List.set_cons_zero, List.set_cons_succ]
        refine wpAnyH_take (i := 2) (v := (.int .i64 (at_ : Int))) rfl (by kernel_rfl) (by kernel_rfl) (by kernel_rfl) (fun _ _ _ h => h) (Or.inl ⟨by rfl, fun w hSw => by have c := Kept.cellOf hSw.1 i1 (by simp); go_simp⟩) h0 ?_
        try simp only [List.getElem_toArray, List.getElem_cons_zero, List.getElem_cons_succ, Act.put, List.setIfInBounds_toArray, List.set_cons_zero, List.set_cons_succ]
        refine wpAnyH_take (i := 3) (v := (.int .i64 (k : Int))) rfl (by kernel_rfl) (by kernel_rfl) (by kernel_rfl) (fun _ _ _ h => h) (Or.inl ⟨by rfl, fun w hSw => by go_simp⟩) h0 ?_
        try simp only [List.getElem_toArray, List.getElem_cons_zero, List.getElem_cons_succ, Act.put, List.setIfInBounds_toArray, List.set_cons_zero, List.set_cons_succ]
        refine wpAnyH_take (i := 4) (v := (.int .i64 ((at_ : Int) + (k : Int)))) rfl (by kernel_rfl) (by kernel_rfl) (by kernel_rfl) (fun _ _ _ h => h) (Or.inl ⟨by rfl, fun w hSw => by have hwr : IntKind.i64.wrap ((at_ : Int) + (k : Int)) = (at_ : Int) + (k : Int) := (by rw [IntKind.wrap_i64]; omega); go_simp⟩) h0 ?_
        try simp only [List.getElem_toArray, List.getElem_cons_zero, List.getElem_cons_succ, Act.put, List.setIfInBounds_toArray, List.set_cons_zero, List.set_cons_succ]
        refine wpAnyH_take (i := 5) (v := (.pointer (some ⟨q, 2, none⟩))) rfl (by kernel_rfl) (by kernel_rfl) (by kernel_rfl) (fun _ _ _ h => h) (Or.inl ⟨by rfl, fun w hSw => by go_simp⟩) h0 ?_
        try simp only [List.getElem_toArray, List.getElem_cons_zero, List.getElem_cons_succ, Act.put, List.setIfInBounds_toArray, List.set_cons_zero, List.set_cons_succ]
        refine wpAnyH_take (i := 6) (v := (.slice (some ⟨db, doff, none⟩) dn dc)) rfl (by kernel_rfl) (by kernel_rfl) (by kernel_rfl) (fun _ _ _ h => h) (Or.inl ⟨by rfl, fun w hSw => by have c := Kept.cellOf hSw.1 i2 (by simp); go_simp⟩) h0 ?_
        try simp only [List.getElem_toArray, List.getElem_cons_zero, List.getElem_cons_succ, Act.put, List.setIfInBounds_toArray, List.set_cons_zero, List.set_cons_succ]
        refine wpAnyH_take (i := 7) (v := (.int .i64 (k : Int))) rfl (by kernel_rfl) (by kernel_rfl) (by kernel_rfl) (fun _ _ _ h => h) (Or.inl ⟨by rfl, fun w hSw => by go_simp⟩) h0 ?_
        try simp only [List.getElem_toArray, List.getElem_cons_zero, List.getElem_cons_succ, Act.put, List.setIfInBounds_toArray, List.set_cons_zero, List.set_cons_succ]
        refine wpAnyH_take (i := 8) (v := (.pointer (some ⟨db, doff + k, none⟩))) rfl (by kernel_rfl) (by kernel_rfl) (by kernel_rfl) (fun _ _ _ h => h) (Or.inl ⟨by rfl, fun w hSw => by go_simp⟩) h0 ?_
        try simp only [List.getElem_toArray, List.getElem_cons_zero, List.getElem_cons_succ, Act.put, List.setIfInBounds_toArray, List.set_cons_zero, List.set_cons_succ]
        refine wpAnyH_take (i := 9) (v := (.int .u8 dk.toNat)) rfl (by kernel_rfl) (by kernel_rfl) (by kernel_rfl) (fun _ _ _ h => h) (Or.inl ⟨by rfl, fun w hSw => by have c := Kept.cellOf hSw.1 hdc1 (by simp); go_simp⟩) h0 ?_
        try simp only [List.getElem_toArray, List.getElem_cons_zero, List.getElem_cons_succ, Act.put, List.setIfInBounds_toArray, List.set_cons_zero, List.set_cons_succ]
        refine wpAnyH_take (i := 10) (v := (.pointer (some ⟨g1, at_ + k, none⟩))) rfl (by kernel_rfl) (by kernel_rfl) (by kernel_rfl) (fun _ _ _ h => h) (Or.inl ⟨by rfl, fun w hSw => by go_simp⟩) h0 ?_
        try simp only [List.getElem_toArray, List.getElem_cons_zero, List.getElem_cons_succ, Act.put, List.setIfInBounds_toArray, List.set_cons_zero, List.set_cons_succ]
        refine wpAnyH_ready (rs := [11]) (by kernel_rfl) (by simp) (AllReadyH.cons (i := 11) rfl (fun K hK => ?_) AllReadyH.nil)
        obtain ⟨oc0, hoc0⟩ := h0.2.1
        have hof0 := h0.2.2
        rw [if_pos (by rfl)]
        go_simp
        have h9 := HS0.out v0 hv0.symm
        refine hK.out _ _ ⟨h9.2, ⟨.int .u8 dk.toNat, by rw [World.cell?_setCell_same _ _ _ hoc0]⟩, by rw [World.frozen?_setCell]; exact hof0⟩ (fun h2 => ?_)
        clear hK K
        try simp only [List.getElem_toArray, List.getElem_cons_zero, List.getElem_cons_succ, Act.put, List.setIfInBounds_toArray, List.set_cons_zero, List.set_cons_succ]
        refine wpAnyH_done (by kernel_rfl) ?_ _
        have H9 := hide h9
        clear h9 h2 h0 hoc0 hof0 HS0 hve hv0 hoc hof
        generalize World.setCell v0 ⟨g1, at_ + k, none⟩ (.int .u8 dk.toNat) = w5 at H9 ⊢
        go_wp2
        refine ⟨⟨k + 1, by omega, by go_num, g1, m1, c1, rfl, by have := HM.out; omega, hide ⟨H9.out.1, H9.out.2, hgne⟩⟩, by simp [intOf]; omega⟩
      · have hmn : m1 = at_ + k := by omega
        have hot : ¬ (at_ : Int) + (k : Int) < (m1 : Int) := by omega
        have HW := hide (wrote_app xs at_ d k (by rw [HL.out]; exact ha) hkd (by rw [HL.out]; exact ho))
        rw [hde] at HW
        obtain ⟨g5, c5, w5, hap, hown5, hK5, hg5, _⟩ := run_app (P := Try.prog) wr 22 22 5 Try.underlying22 Try.infoByte rfl (by decide) _ m1 _ HR.out.1 [.int .u8 dk.toNat] rfl (fun z hz => by simp only [List.mem_singleton] at hz; rw [hz]; rfl) (by unfold maxLen; omega) (by omega)
        have hgne : w1.heap.size ≤ g1 := HR.out.2.2
        have hK6 := hK5 (· = g1) (fun j e => by simp only [Value.ownBlock, Option.some.injEq] at e; exact e.symm)
        have hz := hkr.size
        have H9 : Hid (w5.ownsRow 0 5 1 (.slice (some ⟨g5, 0, none⟩) (m1 + 1) c5) (m1 + 1) (bys (wrote xs at_ d (k + 1))) ∧ Kept [] w1 w5 ∧ w1.heap.size ≤ g5) := hide ⟨by
          rw [← HW.out]
          have e : bys (wrote xs at_ d k ++ [dk]) = bys (wrote xs at_ d k) ++ [.int .u8 dk.toNat] := by simp [bys]
          rw [e]
          exact hown5, ⟨hK6.os.trans hkr.os, hK6.tape.trans hkr.tape, hK6.output.trans hkr.output, Nat.le_trans hkr.size hK6.size, fun i hi _ => (hK6.block i (by omega) (by omega)).trans (hkr.block i hi (by simp))⟩, by
          rcases hg5 with e | e
          · simp only [Value.ownBlock, Option.some.injEq] at e; omega
          · omega⟩
        have e5 := hkr.cellOf hdc1 (by simp)
        have HMN := hide hmn
        clear hm1 hmn hK5 hK6 hown5 hg5 HR hdc hde
        go_wp2_with (at_builtin; refine wpList_app_run rfl _ _ 22 22 rfl _ _ rfl rfl _ _ hap ?_; clear hap)
        refine ⟨⟨k + 1, by omega, by go_num, g5, m1 + 1, c5, rfl, by have := HMN.out; omega, H9⟩, by simp [intOf]; omega⟩
    · have hku : k = u := by omega
      subst hku
      clear hm1
      have hku2 : ¬ (k : Int) < (k : Int) := by omega
      have HL2 : Hid ((wrote xs at_ d k).length = m1) := hide (by rw [wrote_len xs at_ d k (by rw [HL.out]; exact ha) (by have := HD.out.len; omega), HL.out]; exact HM.out.symm)
      go_wp2
      go_ret
      have hfin : Sl wr (some ⟨g1, 0, none⟩) (wrote xs at_ d k) ∧ Kept [] w wr ∧ q ≤ g1 := ⟨(OwnB.of HR.out.1).sl, hk1.trans HR.out.2.1 (by simp), by have := HR.out.2.2; omega⟩
      have hmc : m1 ≤ c1 := by
        obtain ⟨bo', bc', e', h'⟩ := own_shape HR.out.1
        injection e' with _ _ e3
        omega
      first
        | exact ⟨g1, m1, c1, rfl, HL2.out, hmc, hfin.1, hfin.2.1, hfin.2.2⟩
        | exact ⟨g1, m1, c1, rfl, rfl, hmc, hfin.1, hfin.2.1, hfin.2.2⟩

set_option maxHeartbeats 2000000 in
set_option maxRecDepth 100000 in
theorem writtenC_ok (bo : Option Addr) (n cap : Nat) (xs : By) (at_ : Nat) (da : Option Addr) (dn dc : Nat) (w : World) (hl : xs.length = n) (hs : Sl w bo xs) (hc : n ≤ cap) (h0 : bo = none → n = 0 ∧ cap = 0) (ha : at_ ≤ n) (hn : n ≤ 1000000) :
    Calls Try.prog 13 #[.slice bo n cap, .agg #[.bool true, .int .i64 at_, .slice da dn dc], .int .i64 1] w fun e w' => ∃ g m c, e = .returned (.slice (some ⟨g, 0, none⟩) m c) ∧ (xs.take at_).length = m ∧ m ≤ c ∧ Sl w' (some ⟨g, 0, none⟩) (xs.take at_) ∧ Kept [] w w' ∧ w.heap.size ≤ g := by
  obtain ⟨w1, hw1⟩ : ∃ w1, w1 = w.alloc (.cells #[.bool true, .int .i64 at_, .slice da dn dc] 25) := ⟨_, rfl⟩
  have hk1 : Kept [] w w1 := by rw [hw1]; exact (Kept.refl [] w).alloc _
  have hb1 : w1.heap[w.heap.size]? = some (.cells #[.bool true, .int .i64 at_, .slice da dn dc] 25 (0, 0)) := by rw [hw1]; exact (MapKept.heap_alloc w _).1
  have i0 : w1.cell? ⟨w.heap.size, 0, none⟩ = some (.bool true) := by rw [cell_of_row w1 _ 0 _ _ _ hb1]; rfl
  have i1 : w1.cell? ⟨w.heap.size, 1, none⟩ = some (.int .i64 at_) := by rw [cell_of_row w1 _ 1 _ _ _ hb1]; rfl
  have hs2 : Sl w1 bo (xs.take at_) := (fun j hj => by
    have hj2 : j < at_ ∧ j < xs.length := by simp at hj; omega
    obtain ⟨b, off, e, hc⟩ := hs j hj2.2
    refine ⟨b, off, e, ?_⟩
    rw [hk1.cellOf hc (by simp)]
    simp [List.getElem?_take, hj2.1])
  obtain ⟨g, c', w2, hap, hown, hk2, hg2⟩ := run_fresh w1 22 22 5 Try.underlying22 Try.infoByte rfl bo at_ cap (bys (xs.take at_)) (by rw [bys_length]; simp; omega) (fun j u hj => by
    obtain ⟨hj', rfl⟩ := bys_get hj
    exact hs2 j hj') (fun e => ⟨by have := (h0 e).1; omega, (h0 e).2⟩) (bys_oneCell _) (by unfold maxLen; omega) (by omega)
  have hmc : at_ ≤ c' := by
    obtain ⟨bo', bc', e', h'⟩ := own_shape hown
    injection e' with _ _ e3
    omega
  have hsl2 : Sl w2 (some ⟨g, 0, none⟩) (xs.take at_) := (OwnB.of hown).sl
  have i1' := ((Kept.refl [] w1).alloc (.cells #[] 5)).cellOf i1 (by simp)
  have hsz : w.heap.size ≤ w1.heap.size := hk1.size
  have HF := hide (And.intro hsl2 (And.intro (hk1.trans hk2 (by simp)) (Nat.le_trans hsz hg2)))
  have hat : ¬ (n : Int) < (at_ : Int) := by omega
  have hati : (at_ : Int) ≤ (cap : Int) := by omega
  have hlt : (xs.take at_).length = at_ := by simp; omega
  have HLT := hide hlt
  have HMC := hide hmc
  clear hb1 hs hs2 hown hsl2 hk2 hg2 hlt hmc
  go_enter Try.func13, Try.ntmps13
  go_upto_region 1 with (fail)
  rw [← hw1]
  clear hw1
  go_wp2_with (at_builtin; refine wpList_app_run rfl _ _ 22 22 rfl _ _ rfl rfl _ _ hap ?_; clear hap)
  go_ret
  first
    | exact ⟨g, at_, c', rfl, HLT.out, HMC.out, HF.out.1, HF.out.2.1, HF.out.2.2⟩
    | exact ⟨g, at_, c', rfl, rfl, HMC.out, HF.out.1, HF.out.2.1, HF.out.2.2⟩
theorem written_ok (bo : Option Addr) (n cap : Nat) (xs : By) (s : Wm) (u : Nat) (w : World) (hl : xs.length = n) (hs : Sl w bo xs) (hc : n ≤ cap) (h0 : bo = none → n = 0 ∧ cap = 0) (hd : WmIn w s) (ha : 0 ≤ s.x.at_ ∧ s.x.at_ ≤ n) (hu : u ≤ s.x.ch.units) (hu1 : 1 ≤ u ∨ s.x.cut = false) (hn : n ≤ 1000000) (hdn : s.dn ≤ 1000000) :
    Calls Try.prog 13 #[.slice bo n cap, .agg #[.bool s.x.cut, .int .i64 s.x.at_, .slice s.da s.dn s.dc], .int .i64 u] w fun e w' => ∃ g m c, e = .returned (.slice (some ⟨g, 0, none⟩) m c) ∧ (s.x.ch.apply xs u).length = m ∧ m ≤ c ∧ Sl w' (some ⟨g, 0, none⟩) (s.x.ch.apply xs u) ∧ Kept [] w w' ∧ w.heap.size ≤ g := by
  obtain ⟨⟨cut, at_, data⟩, da, dn, dc⟩ := s
  simp only at ha hu1 hdn
  obtain ⟨a, rfl⟩ := Int.eq_ofNat_of_zero_le ha.1
  cases cut with
  | false =>
    have hdl : data.length = dn := hd.inb.len
    have hu2 : u ≤ data.length := by simpa [Wt.ch, Ch.units] using hu
    have e : (Wt.ch ⟨false, (a : Int), data⟩).apply xs u = wrote xs a data u := by
      simp only [Wt.ch, Bool.false_eq_true, if_false, Int.toNat_natCast]
      exact wrote_ch xs a data u hu2
    show Calls Try.prog 13 #[.slice bo n cap, .agg #[.bool false, .int .i64 (a : Int), .slice da dn dc], .int .i64 u] w fun e w' => ∃ g m c, e = .returned (.slice (some ⟨g, 0, none⟩) m c) ∧ ((Wt.ch ⟨false, (a : Int), data⟩).apply xs u).length = m ∧ m ≤ c ∧ Sl w' (some ⟨g, 0, none⟩) ((Wt.ch ⟨false, (a : Int), data⟩).apply xs u) ∧ Kept [] w w' ∧ w.heap.size ≤ g
    rw [e]
    exact writtenW_ok bo n cap xs a da dn dc data u w hl hs h0 hd.inb (by omega) (by omega) hn hdn
  | true =>
    have hu2 : u ≤ 1 := by simpa [Wt.ch, Ch.units] using hu
    have hu3 : u = 1 := by rcases hu1 with h | h; omega; cases h
    subst hu3
    have e : (Wt.ch ⟨true, (a : Int), data⟩).apply xs 1 = xs.take a := by simp [Wt.ch, Ch.apply]
    show Calls Try.prog 13 #[.slice bo n cap, .agg #[.bool true, .int .i64 (a : Int), .slice da dn dc], .int .i64 1] w fun e w' => ∃ g m c, e = .returned (.slice (some ⟨g, 0, none⟩) m c) ∧ ((Wt.ch ⟨true, (a : Int), data⟩).apply xs 1).length = m ∧ m ≤ c ∧ Sl w' (some ⟨g, 0, none⟩) ((Wt.ch ⟨true, (a : Int), data⟩).apply xs 1) ∧ Kept [] w w' ∧ w.heap.size ≤ g
    rw [e]
    exact writtenC_ok bo n cap xs a da dn dc w hl hs hc h0 (by omega) hn
end Go.Proofs.Ytlokekjljibmbaa
