/-
  Contract: press.places.longest.
-/
import Derived.Test.YtdnbpklnkmgmkaaVf
import Derived.Test.YtdnbpklnkmgmkaaUd
import Derived.WalkMore
namespace Go.Proofs.Ytdnbpklnkmgmkaa
open Go.RowKit
set_option linter.unusedVariables false
set_option linter.unusedSimpArgs false

theorem Try.cells43 : (Try.prog.info? 91).map (·.size) = some 2 := by kernel_rfl

set_option maxHeartbeats 2000000 in
set_option maxRecDepth 100000 in
theorem longest_few {w : World} {M : Nat} (pa : Option Addr) (N pc t : Nat) (data : List UInt8) (hN : data.length = N) (hmax : N ≤ 4096) (hat : t ≤ N) (hf : N < t + 3) :
    Calls Try.prog 44 #[.map (some M), .slice pa N pc, .int .i64 t] w fun e w' => e = .returned (mv (Prs.thr (Prs.mtch data t)).2 (Prs.thr (Prs.mtch data t)).1) ∧ Kept [] w w' := by
  rw [Prs.thr_few data t (by omega) (by omega)]
  have hmn : min (66 : Int) ((N : Int) - (t : Int)) = (N : Int) - (t : Int) := by omega
  have hq : (N : Int) - (t : Int) < 3 := by omega
  go_enter Try.func44, Try.ntmps44
  go_wp2
  go_step3
  go_wp2
  rw [Exit.noGoto_ret]
  have hg : ((w.alloc (.cells #[.int .i64 0, .int .i64 0] 91)).alloc (.cells #[.int .i64 0, .int .i64 0] 91)).heap[w.heap.size]? = some (.cells #[.int .i64 0, .int .i64 0] 91 (0, 0)) := by
    rw [(MapKept.heap_alloc _ _).2 _ (by simp)]
    exact (MapKept.heap_alloc _ _).1
  exact ret_row (g := w.heap.size) (t := 91) (cs := #[.int .i64 0, .int .i64 0]) (fr := (0, 0)) rfl rfl (d := _) rfl hg Try.underlying91 rfl Try.cells43 ⟨rfl, ((Kept.refl [] w).alloc _).alloc _⟩

theorem key_unique {l : List MapEntry} (h : l.Pairwise (fun x y => x.key ≠ y.key)) {x y : MapEntry} (hx : x ∈ l) (hy : y ∈ l) (hk : x.key = y.key) : x = y := by
  obtain ⟨i, hi, rfl⟩ := List.getElem_of_mem hx
  obtain ⟨j, hj, rfl⟩ := List.getElem_of_mem hy
  rcases Nat.lt_trichotomy i j with h' | h' | h'
  · exact absurd hk (List.pairwise_iff_getElem.1 h i j hi hj h')
  · subst h'; rfl
  · exact absurd hk.symm (List.pairwise_iff_getElem.1 h j i hj hi h')
theorem Pm.lookAll {w : World} {M : Nat} {data : List UInt8} {at_ : Nat} {es : Array MapEntry} {clock : Nat} (h : Pm w M data at_ es clock) (a b c : UInt8) : ∃ fo fc, w.ownsInts (M + 1) 3 .i64 (.slice fo (Prs.pls data a b c at_).length fc) (ints (Prs.pls data a b c at_)) ∧ ∀ W, Kept [] w W → (Instr.lookup 89 (.map (some M)) (k3 a b c) false).run Try.prog W = .ok (.slice fo (Prs.pls data a b c at_).length fc) W := by
  by_cases hex : ∃ x ∈ es.toList, x.key = k3 a b c
  · obtain ⟨x, hx, hk⟩ := hex
    obtain ⟨a', b', c', e, ho⟩ := h.vals x hx
    rw [hk] at e
    obtain ⟨rfl, rfl, rfl⟩ := k3_inj e
    obtain ⟨fo, fc, hv, _⟩ := own_shape ho.1
    have hl : (ints (Prs.pls data a b c at_)).length = (Prs.pls data a b c at_).length := by simp [ints]
    rw [hl] at hv
    refine ⟨fo, fc, hv ▸ ho, fun W hkW => ?_⟩
    have hW := h.kept hkW
    rcases look_run hW.row hW.keys a b c with ⟨_, h2⟩ | ⟨j, e0, h1, h2, h3⟩
    · exact absurd hk (h2 x hx)
    · have := key_unique ((MapKept.stamped_iff es clock).1 h.stamped).2.2 (List.mem_of_getElem? h1) hx (h2.trans hk.symm)
      rw [h3, this, hv]
  · have hnil : Prs.pls data a b c at_ = [] := Classical.byContradiction fun hne => hex (h.full a b c hne)
    refine ⟨none, 0, by rw [hnil]; exact World.ownsInts_nil _ _ _ _, fun W hkW => ?_⟩
    have hW := h.kept hkW
    rcases look_run hW.row hW.keys a b c with ⟨h1, _⟩ | ⟨j, e0, h1, h2, h3⟩
    · rw [h1, hnil]; rfl
    · exact absurd ⟨e0, List.mem_of_getElem? h1, h2⟩ hex

/-- min, its run known. -/
theorem wpList_minRun {ops : Array Oper} {rest : List Oper} {o : Oper} {a : Act} {Q : Exit → Act → World → Prop} {P : Program} (w : World) (hgd : o.guard = none) (s x : Operand) (t : TypeId) (ho : o.op = .call { callee := .builtin .min, args := #[s, x], argTypes := #[t, t] }) (vs vx : Value) (hs : a.eval s = vs) (hx : a.eval x = vx) (v' : Value)
    (hrun : ∀ W, (Builtin.min_ #[t, t] o.type #[vs, vx]).run P W = .ok v' W) (hK : wpList P ops Q rest (a.put o.dst v') w) : wpList P ops Q (o :: rest) a w := by
  refine wpList_plain hgd fun K' hK' => ?_
  unfold Oper.wp execOp
  simp only [ho, resolve, invoke, builtin, Sem.run_bind, Sem.run_pure, Result.andThen_ok, List.map_toArray, List.map_cons, List.map_nil, hs, hx, hrun]
  exact hK' _ _ hK
theorem min_run (a b c : Int) (h : min a b = c) (ty : TypeId) (W : World) : (Builtin.min_ #[3, 3] ty #[.int .i64 a, .int .i64 b]).run Try.prog W = .ok (.int .i64 c) W := by
  subst h
  have : (if b < a then b else a) = min a b := by split <;> omega
  simp [Builtin.min_, Builtin.min2, this]

/-- While it searches: the best so far lies in block Bb, the answer's block Rb is as it was made. -/
structure Lg (w wr : World) (Rb Bb : Nat) (m : Nat × Nat) : Prop where
  kept : Kept [] w wr
  best : Mb wr Bb m.2 m.1
  res : wr.heap[Rb]? = some (.cells #[.int .i64 0, .int .i64 0] 91 (0, 0))
  nR : w.heap.size ≤ Rb
  nB : w.heap.size ≤ Bb
  ne : Rb ≠ Bb
theorem Lg.drewN {w wr : World} {Rb Bb : Nat} {m : Nat × Nat} (h : Lg w wr Rb Bb m) (n : Nat) : Lg w (wr.drewN n) Rb Bb m := ⟨h.kept.drewN n, h.best, h.res, h.nR, h.nB, h.ne⟩
theorem Mb.fr {w : World} {M d l : Nat} (h : Mb w M d l) (j : Nat) : w.frozen? ⟨M, j, none⟩ = false := frozen_of_row w M j _ _ h
theorem Lg.put {w wr : World} {Rb Bb : Nat} {m : Nat × Nat} (h : Lg w wr Rb Bb m) (d l : Nat) : Lg w ((wr.setCell ⟨Bb, 0, none⟩ (.int .i64 d)).setCell ⟨Bb, 1, none⟩ (.int .i64 l)) Rb Bb (l, d) := by
  have h1 : (wr.setCell ⟨Bb, 0, none⟩ (.int .i64 d)).heap[Bb]? = some (.cells #[.int .i64 d, .int .i64 m.1] 91 (0, 0)) := heap_setCell_same wr Bb 0 _ _ _ h.best
  have hk : Kept [Bb] wr ((wr.setCell ⟨Bb, 0, none⟩ (.int .i64 d)).setCell ⟨Bb, 1, none⟩ (.int .i64 l)) := ((Kept.refl [Bb] wr).setCell (p := ⟨Bb, 0, none⟩) (by simp) _).setCell (p := ⟨Bb, 1, none⟩) (by simp) _
  exact ⟨h.kept.trans hk (by simp; have := h.nB; omega), heap_setCell_same _ Bb 1 _ _ _ h1, (hk.block Rb (Array.getElem?_eq_some_iff.1 h.res).1 (by simp; exact h.ne)).trans h.res, h.nR, h.nB, h.ne⟩
/-- The answer is laid. -/
theorem Lg.fin {w wr : World} {Rb Bb : Nat} {m : Nat × Nat} (h : Lg w wr Rb Bb m) : Kept [] w ((wr.setCell ⟨Rb, 0, none⟩ (.int .i64 m.2)).setCell ⟨Rb, 1, none⟩ (.int .i64 m.1)) ∧ ((wr.setCell ⟨Rb, 0, none⟩ (.int .i64 m.2)).setCell ⟨Rb, 1, none⟩ (.int .i64 m.1)).heap[Rb]? = some (.cells #[.int .i64 m.2, .int .i64 m.1] 91 (0, 0)) := by
  have h1 : (wr.setCell ⟨Rb, 0, none⟩ (.int .i64 m.2)).heap[Rb]? = some (.cells #[.int .i64 m.2, .int .i64 0] 91 (0, 0)) := heap_setCell_same wr Rb 0 _ _ _ h.res
  exact ⟨(h.kept.setCell (p := ⟨Rb, 0, none⟩) (by simp; have := h.nR; omega) _).setCell (p := ⟨Rb, 1, none⟩) (by simp; have := h.nR; omega) _, heap_setCell_same _ Rb 1 _ _ _ h1⟩

theorem lg_start {w w1 : World} (hk : Kept [] ((w.alloc (.cells #[.int .i64 0, .int .i64 0] 91)).alloc (.cells #[.int .i64 0, .int .i64 0] 91)) w1) : Lg w w1 w.heap.size (w.heap.size + 1) (0, 0) := by
  refine ⟨(((Kept.refl [] w).alloc _).alloc _).trans hk (by simp), ?_, ?_, Nat.le_refl _, by omega, by omega⟩
  · refine (hk.block (w.heap.size + 1) (by simp) (by simp)).trans ?_
    have := (MapKept.heap_alloc (w.alloc (.cells #[.int .i64 0, .int .i64 0] 91)) (.cells #[.int .i64 0, .int .i64 0] 91)).1
    rwa [show (w.alloc (.cells #[.int .i64 0, .int .i64 0] 91)).heap.size = w.heap.size + 1 by simp] at this
  · refine (hk.block w.heap.size (by simp; omega) (by simp)).trans ?_
    rw [(MapKept.heap_alloc _ _).2 _ (by simp)]
    exact (MapKept.heap_alloc _ _).1

set_option maxHeartbeats 4000000 in
set_option maxRecDepth 100000 in
theorem longest_in {w : World} {M : Nat} {data : List UInt8} {t : Nat} {es : Array MapEntry} {clock : Nat} (h : Pm w M data t es clock) (pb po N pc : Nat) (hN : data.length = N) (hmax : N ≤ 4096) (h3 : t + 3 ≤ N) (hc : ∀ i, i < data.length → w.cell? ⟨pb, po + i, none⟩ = some (.int .u8 (data.getD i 0).toNat)) :
    Calls Try.prog 44 #[.map (some M), .slice (some ⟨pb, po, none⟩) N pc, .int .i64 t] w fun e w' => e = .returned (mv (Prs.thr (Prs.mtch data t)).2 (Prs.thr (Prs.mtch data t)).1) ∧ Kept [] w w' := by
  obtain ⟨most, hmost⟩ : ∃ most, Prs.mostAt data t = most := ⟨_, rfl⟩
  have hmn : min (66 : Int) ((N : Int) - (t : Int)) = (most : Int) := by unfold Prs.mostAt at hmost; omega
  have hm3 : 3 ≤ most ∧ most ≤ 66 ∧ t + most ≤ N := by unfold Prs.mostAt at hmost; omega
  have hq : ¬ ((most : Int) < 3) := by omega
  obtain ⟨a0, ha⟩ : ∃ a0, data.getD t 0 = a0 := ⟨_, rfl⟩
  obtain ⟨b0, hb⟩ : ∃ b0, data.getD (t + 1) 0 = b0 := ⟨_, rfl⟩
  obtain ⟨c0, hcc⟩ : ∃ c0, data.getD (t + 2) 0 = c0 := ⟨_, rfl⟩
  have HT : Hid (∀ W, Kept [] w W → Calls Try.prog 49 #[.slice (some ⟨pb, po, none⟩) N pc, .int .i64 t] W fun e w' => e = .returned (.agg #[.int .u8 a0.toNat, .int .u8 b0.toNat, .int .u8 c0.toNat]) ∧ Kept [] W w') := fun W hk => by
    have := three_ok pb po N pc t data W hN (by omega) hmax (fun i hi => hk.cellOf (hc i hi) (by simp))
    rw [ha, hb, hcc] at this
    exact this
  have hfr : Prs.pls data a0 b0 c0 t = Prs.froms data t := by rw [← ha, ← hb, ← hcc]; rfl
  obtain ⟨fo, fc, hof, hrf⟩ := h.lookAll a0 b0 c0
  rw [hfr] at hof hrf
  obtain ⟨FN, hFN⟩ : ∃ FN, (Prs.froms data t).length = FN := ⟨_, rfl⟩
  rw [hFN] at hof hrf
  have HL : Hid (∀ W, Kept [] w W → (Instr.lookup 89 (.map (some M)) (.agg #[.int .u8 a0.toNat, .int .u8 b0.toNat, .int .u8 c0.toNat]) false).run Try.prog W = .ok (.slice fo FN fc) W) := hrf
  have HF : Hid ((Prs.froms data t).length = FN ∧ ∀ j, j < FN → ∃ fg, fo = some ⟨fg, 0, none⟩ ∧ w.cell? ⟨fg, j, none⟩ = some (.int .i64 ((Prs.froms data t).getD j 0 : Nat))) := ⟨hFN, fun j hj => by
    rcases hof.1.2 with ⟨e, e2⟩ | ⟨g, cap, cur, e, _⟩
    · have e3 : (Prs.froms data t).length = 0 := by simpa [ints] using e2
      omega
    · injection e with e1 _ _
      refine ⟨g, e1, ?_⟩
      have h1 := hof.1
      rw [e1] at h1
      have hlen : (ints (Prs.froms data t)).length = FN := by simp [ints, hFN]
      rw [hlen] at h1
      rw [h1.cellAt j (by omega)]
      simp [ints, List.getElem?_eq_getElem (show j < (Prs.froms data t).length by omega)]⟩
  have hFNb : FN ≤ 4096 := by have := Prs.pls_len data (data.getD t 0) (data.getD (t + 1) 0) (data.getD (t + 2) 0) t; have e : (Prs.froms data t).length ≤ t := this; omega
  have HD : Hid (data.length = N ∧ t + 3 ≤ N ∧ Prs.mostAt data t = most ∧ (3 ≤ most ∧ most ≤ 66 ∧ t + most ≤ N) ∧ ∀ i, i < data.length → w.cell? ⟨pb, po + i, none⟩ = some (.int .u8 (data.getD i 0).toNat)) := ⟨hN, h3, hmost, hm3, hc⟩
  clear h hc hm3 hmost ha hb hcc hfr hN hof hrf hFN
  go_enter Try.func44, Try.ntmps44
  go_wp2
  go_step3
  go_wp2_with (first
    | (refine wpList_minRun _ rfl _ _ 3 rfl _ _ rfl rfl _ (min_run _ _ _ hmn _) ?_)
    | (go_at_call 49; refine (HT.out _ (((Kept.refl [] w).alloc _).alloc _)).mono ?_; rintro e w1 ⟨rfl, hk1⟩; have HR1 : Hid (Kept [] w w1) := (((Kept.refl [] w).alloc _).alloc _).trans hk1 (by simp); have HLG : Hid (Lg w w1 w.heap.size (w.heap.size + 1) (0, 0)) := lg_start hk1; clear hk1)
    | (refine wpList_lookRun _ rfl _ _ _ rfl _ _ rfl rfl _ (HL.out _ HR1.out) ?_)
    | go_in)
  go_step3
  simp only [Exit.then]
  rename_i K hK
  refine hK _ _ ?_
  clear HR1 HL HT hmn
  generalize w.heap.size = Rb at HLG ⊢
  generalize Rb + 1 = Bb at HLG ⊢
  go_wp2
  go_loopw [10] (fun i wr => ∃ (k : Nat) (m : Nat × Nat), k ≤ FN ∧ i = .int .i64 ((k : Int) - 1) ∧ Hid (Lg w wr Rb Bb m ∧ Prs.Srch data t (Prs.froms data t) k m)) (fun i _ => (intOf i + 1).toNat)
  case atStart => exact ⟨FN, (0, 0), Nat.le_refl _, rfl, HLG.out, by rw [← HF.out.1]; exact Prs.srch_start data t (by have := HD.out; omega)⟩
  case round =>
    clear HLG
    obtain ⟨k, m, hk, rfl, HM⟩ := hrel
    by_cases hk0 : k = 0
    · subst hk0
      have hq1 : ¬ ((0 : Int) ≤ ((0 : Nat) : Int) - 1) := by omega
      have HE0 : Hid (Prs.thr (Prs.mtch data t) = m) := (Prs.srch_far data t 0 m HM.out.2 (by omega)).symm
      obtain ⟨ml, md, hmm⟩ : ∃ ml md, m = (ml, md) := ⟨_, _, rfl⟩
      have HG : Hid (Lg w wr Rb Bb (ml, md)) := by rw [← hmm]; exact HM.out.1
      have HQ : Hid (Prs.thr (Prs.mtch data t) = (ml, md)) := by rw [← hmm]; exact HE0.out
      clear hmm
      have q0 := HG.out.best.c0
      have q1 := HG.out.best.c1
      have s0 : wr.cell? ⟨Rb, 0, none⟩ = some (.int .i64 0) := by rw [cell_of_row wr Rb 0 _ _ _ HG.out.res]; rfl
      have s1 : wr.cell? ⟨Rb, 1, none⟩ = some (.int .i64 0) := by rw [cell_of_row wr Rb 1 _ _ _ HG.out.res]; rfl
      have t0 : wr.frozen? ⟨Rb, 0, none⟩ = false := frozen_of_row wr Rb 0 _ _ HG.out.res
      have t1 : wr.frozen? ⟨Rb, 1, none⟩ = false := frozen_of_row wr Rb 1 _ _ HG.out.res
      simp only at q0 q1
      go_wp2
      try rw [Exit.noGoto_ret]
      refine ret_row (g := Rb) (t := 91) (cs := #[.int .i64 md, .int .i64 ml]) (fr := (0, 0)) rfl rfl (d := _) rfl HG.out.fin.2 Try.underlying91 rfl Try.cells43 ?_
      exact ⟨by rw [HQ.out]; rfl, HG.out.fin.1⟩
    · obtain ⟨i0, rfl⟩ : ∃ i0, k = i0 + 1 := ⟨k - 1, by omega⟩
      rw [show (((i0 + 1 : Nat) : Int) - 1) = (i0 : Int) by omega]
      obtain ⟨fg, hfo, hfc⟩ := HF.out.2 i0 (by omega)
      subst hfo
      obtain ⟨f, hf⟩ : ∃ f, (Prs.froms data t).getD i0 0 = f := ⟨_, rfl⟩
      rw [hf] at hfc
      have hft : f < t := by have := (Prs.froms_at data t i0 (by have := HF.out.1; omega)).1; omega
      have cf : wr.cell? ⟨fg, i0, none⟩ = some (.int .i64 (f : Nat)) := HM.out.1.kept.cellOf hfc (by simp)
      have HC := hide hfc
      have HFF := hide hf
      have hi0 : (i0 : Int) < (FN : Int) := by omega
      have htb : t ≤ 4096 := by omega
      clear hk0 hfc hf
      by_cases hfar : 1024 < t - f
      · have hq2 : (1024 : Int) < (t : Int) - (f : Int) := by omega
        have HE0 : Hid (Prs.thr (Prs.mtch data t) = m) := (Prs.srch_far data t (i0 + 1) m HM.out.2 (fun j hj => by
          rcases Nat.lt_or_ge j i0 with h' | h'
          · have := Prs.froms_rising data t h' (by have := HF.out.1; omega)
            rw [HFF.out] at this
            omega
          · obtain rfl : j = i0 := by omega
            rw [HFF.out]; exact hfar)).symm
        obtain ⟨ml, md, hmm⟩ : ∃ ml md, m = (ml, md) := ⟨_, _, rfl⟩
        have HG : Hid (Lg w wr Rb Bb (ml, md)) := by rw [← hmm]; exact HM.out.1
        have HQ : Hid (Prs.thr (Prs.mtch data t) = (ml, md)) := by rw [← hmm]; exact HE0.out
        clear hmm
        have q0 := HG.out.best.c0
        have q1 := HG.out.best.c1
        have s0 : wr.cell? ⟨Rb, 0, none⟩ = some (.int .i64 0) := by rw [cell_of_row wr Rb 0 _ _ _ HG.out.res]; rfl
        have s1 : wr.cell? ⟨Rb, 1, none⟩ = some (.int .i64 0) := by rw [cell_of_row wr Rb 1 _ _ _ HG.out.res]; rfl
        have t0 : wr.frozen? ⟨Rb, 0, none⟩ = false := frozen_of_row wr Rb 0 _ _ HG.out.res
        have t1 : wr.frozen? ⟨Rb, 1, none⟩ = false := frozen_of_row wr Rb 1 _ _ HG.out.res
        simp only at q0 q1
        go_wp2
        try rw [Exit.noGoto_ret]
        refine ret_row (g := Rb) (t := 91) (cs := #[.int .i64 md, .int .i64 ml]) (fr := (0, 0)) rfl rfl (d := _) rfl HG.out.fin.2 Try.underlying91 rfl Try.cells43 ?_
        exact ⟨by rw [HQ.out]; rfl, HG.out.fin.1⟩
      · have hq2 : ¬ ((1024 : Int) < (t : Int) - (f : Int)) := by omega
        have hstep := Prs.srch_step data t i0 m (by have := HD.out; omega) HM.out.2 (by rw [HFF.out]; omega)
        rw [HFF.out] at hstep
        obtain ⟨d, hd, hal, hup, hsr⟩ := hstep
        have HS : Hid (t - f = d + 1 ∧ d + 1 ≤ 1024 ∧ Prs.upd m (d + 1) (Prs.alike data f t 66) = Prs.thr (Prs.best data t (d + 1)) ∧ Prs.Srch data t (Prs.froms data t) i0 (Prs.upd m (d + 1) (Prs.alike data f t 66))) := ⟨hd, by omega, hup, hsr⟩
        have hdd : (t : Int) - (f : Int) = ((d + 1 : Nat) : Int) := by omega
        have HAL := hide hal
        clear hup hsr hal
        go_wp2
        go_loopw [12] (fun l wr => ∃ L : Nat, L ≤ 66 ∧ l = .int .i64 L ∧ Hid (3 ≤ L ∧ L ≤ Prs.alike data f t 66 ∧ Lg w wr Rb Bb (Prs.upd m (d + 1) (L - 1)))) (fun l _ => 67 - (intOf l).toNat)
        case atStart => exact ⟨3, by omega, rfl, by omega, HAL.out, by rw [Prs.upd_two]; exact HM.out.1⟩
        case round =>
          clear cf HM HAL
          obtain ⟨L, hL66, rfl, HI⟩ := hrel
          obtain ⟨bl, bd, hbm⟩ : ∃ bl bd, Prs.upd m (d + 1) (L - 1) = (bl, bd) := ⟨_, _, rfl⟩
          have hLG := HI.out.2.2
          rw [hbm] at hLG
          have hst := Prs.upd_step m (d + 1) L HI.out.1
          rw [hbm] at hst
          have q0 := hLG.best.c0
          have q1 := hLG.best.c1
          simp only at q0 q1
          have r0 := hLG.best.fr 0
          have r1 := hLG.best.fr 1
          have hRB : Rb ≠ Bb := hLG.ne
          have hBR : Bb ≠ Rb := Ne.symm hRB
          by_cases hb : bl < L
          · have hq3 : ((bl : Int) < (L : Int)) := by omega
            rw [if_pos hb] at hst
            have HL4 : Hid (Lg w ((wr.setCell ⟨Bb, 0, none⟩ (.int .i64 ((d : Int) + 1))).setCell ⟨Bb, 1, none⟩ (.int .i64 L)) Rb Bb (L, d + 1)) := hLG.put (d + 1) L
            have HST := hide hst
            have HG := hide hLG
            clear hst hLG hbm
            by_cases hLm : L = most
            · subst hLm
              have hq5 : ((L : Int) == (L : Int)) = true := by simp
              have HE5 : Hid (Prs.thr (Prs.mtch data t) = Prs.upd m (d + 1) L) := by
                show _ = _
                have hA : Prs.alike data f t 66 = L := by have := Prs.alike_most data f t (by have := HD.out; omega); have := HD.out.2.2.1; have := HI.out.2.1; omega
                have hf' : f = t - (d + 1) := by have := HS.out.1; omega
                rw [← hA, HS.out.2.2.1]
                exact (Prs.srch_full data t d (by have := HD.out; omega) (by have := HS.out; omega) (by have := HS.out; omega) (by rw [← hf', hA, HD.out.2.2.1])).symm
              have s0 : wr.cell? ⟨Rb, 0, none⟩ = some (.int .i64 0) := by rw [cell_of_row wr Rb 0 _ _ _ HG.out.res]; rfl
              have s1 : wr.cell? ⟨Rb, 1, none⟩ = some (.int .i64 0) := by rw [cell_of_row wr Rb 1 _ _ _ HG.out.res]; rfl
              have t0 : wr.frozen? ⟨Rb, 0, none⟩ = false := frozen_of_row wr Rb 0 _ _ HG.out.res
              have t1 : wr.frozen? ⟨Rb, 1, none⟩ = false := frozen_of_row wr Rb 1 _ _ HG.out.res
              clear HG
              have HG := HL4
              clear HL4
              go_wp2
              try rw [Exit.noGoto_ret]
              refine ret_row (g := Rb) (t := 91) (cs := #[.int .i64 ((d + 1 : Nat) : Int), .int .i64 L]) (fr := (0, 0)) rfl rfl (d := _) rfl HG.out.fin.2 Try.underlying91 rfl Try.cells43 ?_
              exact ⟨by rw [HE5.out, ← HST.out]; rfl, HG.out.fin.1⟩
            · have hq5 : ((L : Int) == (most : Int)) = false := by simp; omega
              clear HG
              go_wp2
              rw [HST.out] at HL4
              generalize (wr.setCell ⟨Bb, 0, none⟩ (.int .i64 ((d : Int) + 1))).setCell ⟨Bb, 1, none⟩ (.int .i64 L) = w5 at HL4 ⊢
              have HL5 := HL4
              clear HL4 q0 q1 r0 r1
              have hLN : t + L < N := by have := HD.out.2.2.1; have := HD.out.2.2.2.1; have := HI.out.2.1; have h7 := Prs.alike_most data f t (by have := HD.out; omega); omega
              have hfN : f + L < N := by have := HS.out; omega
              have cx : w5.cell? ⟨pb, po + (t + L), none⟩ = some (.int .u8 (data.getD (t + L) 0).toNat) := HL5.out.kept.cellOf (HD.out.2.2.2.2 (t + L) (by have := HD.out.1; omega)) (by simp)
              have cy : w5.cell? ⟨pb, po + (f + L), none⟩ = some (.int .u8 (data.getD (f + L) 0).toNat) := HL5.out.kept.cellOf (HD.out.2.2.2.2 (f + L) (by have := HD.out.1; omega)) (by simp)
              have cf : w5.cell? ⟨fg, i0, none⟩ = some (.int .i64 (f : Nat)) := HL5.out.kept.cellOf HC.out (by simp)
              obtain ⟨tl, htl⟩ : ∃ tl, tl = t + L := ⟨_, rfl⟩
              obtain ⟨fl, hfl⟩ : ∃ fl, fl = f + L := ⟨_, rfl⟩
              rw [← htl] at cx hLN
              rw [← hfl] at cy hfN
              have hw1 : IntKind.i64.wrap ((t : Int) + (L : Int)) = (tl : Int) := by simp [IntKind.wrap, IntKind.bits, IntKind.signed]; omega
              have hw2 : IntKind.i64.wrap ((f : Int) + (L : Int)) = (fl : Int) := by simp [IntKind.wrap, IntKind.bits, IntKind.signed]; omega
              have g1 : (tl : Int) < (N : Int) := by omega
              have g2 : (fl : Int) < (N : Int) := by omega
              have g3 : (i0 : Int) < (FN : Int) := by omega
              have HT2 : Hid (tl = t + L ∧ fl = f + L) := ⟨htl, hfl⟩
              clear htl hfl
              by_cases hbe : data.getD fl 0 = data.getD tl 0
              · have hne : (((data.getD tl 0).toNat : Int) != ((data.getD fl 0).toNat : Int)) = false := by rw [hbe]; simp
                generalize (data.getD tl 0).toNat = xx at cx hne
                generalize (data.getD fl 0).toNat = yy at cy hne
                go_quiet (fail)
                have HL6 := hide (HL5.out.drewN nq)
                clear cx cy cf hw1 hw2 HL5
                generalize w5.drewN nq = w6 at HL6 ⊢
                go_wp2
                go_roundw
                case rel =>
                  have hgo : L + 1 ≤ Prs.alike data f t 66 := Prs.alike_goes data f t L (by have := HD.out; omega) HI.out.2.1 (by rw [HD.out.2.2.1]; exact hLm) (by rw [← HT2.out.1, ← HT2.out.2]; exact hbe)
                  exact ⟨L + 1, by have := Prs.alike_le data 66 f t; omega, by go_num, by have := HI.out.1; omega, hgo, by rw [show L + 1 - 1 = L by omega]; exact HL6.out⟩
                case measure => simp [intOf]; have := HI.out.2.1; have := Prs.alike_le data 66 f t; omega
              · have hne : (((data.getD tl 0).toNat : Int) != ((data.getD fl 0).toNat : Int)) = true := by
                  simp only [bne_iff_ne, ne_eq, Int.natCast_inj]
                  exact fun e => hbe (UInt8.toNat_inj.1 e).symm
                generalize (data.getD tl 0).toNat = xx at cx hne
                generalize (data.getD fl 0).toNat = yy at cy hne
                go_quiet (fail)
                have HL6 := hide (HL5.out.drewN nq)
                clear cx cy cf hw1 hw2 HL5
                generalize w5.drewN nq = w6 at HL6 ⊢
                go_wp2
                go_roundw
                case rel =>
                  have hA : Prs.alike data f t 66 = L := Prs.alike_ends data f t L HI.out.2.1 (by rw [← HT2.out.1, ← HT2.out.2]; exact hbe)
                  exact ⟨i0, Prs.upd m (d + 1) L, by omega, by go_num, HL6.out, by rw [← hA]; exact HS.out.2.2.2⟩
                case measure => simp [intOf]
          · have hq3 : ¬ ((bl : Int) < (L : Int)) := by omega
            rw [if_neg hb] at hst
            have HST := hide hst
            have HG := hide hLG
            clear hst hLG hbm
            by_cases hLm : L = most
            · subst hLm
              have hq5 : ((L : Int) == (L : Int)) = true := by simp
              have HE5 : Hid (Prs.thr (Prs.mtch data t) = Prs.upd m (d + 1) L) := by
                show _ = _
                have hA : Prs.alike data f t 66 = L := by have := Prs.alike_most data f t (by have := HD.out; omega); have := HD.out.2.2.1; have := HI.out.2.1; omega
                have hf' : f = t - (d + 1) := by have := HS.out.1; omega
                rw [← hA, HS.out.2.2.1]
                exact (Prs.srch_full data t d (by have := HD.out; omega) (by have := HS.out; omega) (by have := HS.out; omega) (by rw [← hf', hA, HD.out.2.2.1])).symm
              have s0 : wr.cell? ⟨Rb, 0, none⟩ = some (.int .i64 0) := by rw [cell_of_row wr Rb 0 _ _ _ HG.out.res]; rfl
              have s1 : wr.cell? ⟨Rb, 1, none⟩ = some (.int .i64 0) := by rw [cell_of_row wr Rb 1 _ _ _ HG.out.res]; rfl
              have t0 : wr.frozen? ⟨Rb, 0, none⟩ = false := frozen_of_row wr Rb 0 _ _ HG.out.res
              have t1 : wr.frozen? ⟨Rb, 1, none⟩ = false := frozen_of_row wr Rb 1 _ _ HG.out.res
              go_wp2
              try rw [Exit.noGoto_ret]
              refine ret_row (g := Rb) (t := 91) (cs := #[.int .i64 bd, .int .i64 bl]) (fr := (0, 0)) rfl rfl (d := _) rfl HG.out.fin.2 Try.underlying91 rfl Try.cells43 ?_
              exact ⟨by rw [HE5.out, ← HST.out]; rfl, HG.out.fin.1⟩
            · have hq5 : ((L : Int) == (most : Int)) = false := by simp; omega
              have HL5 : Hid (Lg w wr Rb Bb (Prs.upd m (d + 1) L)) := by rw [← HST.out]; exact HG.out
              clear HG
              have hLN : t + L < N := by have := HD.out.2.2.1; have := HD.out.2.2.2.1; have := HI.out.2.1; have h7 := Prs.alike_most data f t (by have := HD.out; omega); omega
              have hfN : f + L < N := by have := HS.out; omega
              have cx : wr.cell? ⟨pb, po + (t + L), none⟩ = some (.int .u8 (data.getD (t + L) 0).toNat) := HL5.out.kept.cellOf (HD.out.2.2.2.2 (t + L) (by have := HD.out.1; omega)) (by simp)
              have cy : wr.cell? ⟨pb, po + (f + L), none⟩ = some (.int .u8 (data.getD (f + L) 0).toNat) := HL5.out.kept.cellOf (HD.out.2.2.2.2 (f + L) (by have := HD.out.1; omega)) (by simp)
              have cf : wr.cell? ⟨fg, i0, none⟩ = some (.int .i64 (f : Nat)) := HL5.out.kept.cellOf HC.out (by simp)
              obtain ⟨tl, htl⟩ : ∃ tl, tl = t + L := ⟨_, rfl⟩
              obtain ⟨fl, hfl⟩ : ∃ fl, fl = f + L := ⟨_, rfl⟩
              rw [← htl] at cx hLN
              rw [← hfl] at cy hfN
              have hw1 : IntKind.i64.wrap ((t : Int) + (L : Int)) = (tl : Int) := by simp [IntKind.wrap, IntKind.bits, IntKind.signed]; omega
              have hw2 : IntKind.i64.wrap ((f : Int) + (L : Int)) = (fl : Int) := by simp [IntKind.wrap, IntKind.bits, IntKind.signed]; omega
              have g1 : (tl : Int) < (N : Int) := by omega
              have g2 : (fl : Int) < (N : Int) := by omega
              have g3 : (i0 : Int) < (FN : Int) := by omega
              have HT2 : Hid (tl = t + L ∧ fl = f + L) := ⟨htl, hfl⟩
              clear htl hfl
              by_cases hbe : data.getD fl 0 = data.getD tl 0
              · have hne : (((data.getD tl 0).toNat : Int) != ((data.getD fl 0).toNat : Int)) = false := by rw [hbe]; simp
                generalize (data.getD tl 0).toNat = xx at cx hne
                generalize (data.getD fl 0).toNat = yy at cy hne
                go_wp2
                go_quiet (fail)
                have HL6 := hide (HL5.out.drewN nq)
                clear cx cy cf hw1 hw2 HL5
                generalize wr.drewN nq = w6 at HL6 ⊢
                go_wp2
                go_roundw
                case rel =>
                  have hgo : L + 1 ≤ Prs.alike data f t 66 := Prs.alike_goes data f t L (by have := HD.out; omega) HI.out.2.1 (by rw [HD.out.2.2.1]; exact hLm) (by rw [← HT2.out.1, ← HT2.out.2]; exact hbe)
                  exact ⟨L + 1, by have := Prs.alike_le data 66 f t; omega, by go_num, by have := HI.out.1; omega, hgo, by rw [show L + 1 - 1 = L by omega]; exact HL6.out⟩
                case measure => simp [intOf]; have := HI.out.2.1; have := Prs.alike_le data 66 f t; omega
              · have hne : (((data.getD tl 0).toNat : Int) != ((data.getD fl 0).toNat : Int)) = true := by
                  simp only [bne_iff_ne, ne_eq, Int.natCast_inj]
                  exact fun e => hbe (UInt8.toNat_inj.1 e).symm
                generalize (data.getD tl 0).toNat = xx at cx hne
                generalize (data.getD fl 0).toNat = yy at cy hne
                go_wp2
                go_quiet (fail)
                have HL6 := hide (HL5.out.drewN nq)
                clear cx cy cf hw1 hw2 HL5
                generalize wr.drewN nq = w6 at HL6 ⊢
                go_wp2
                go_roundw
                case rel =>
                  have hA : Prs.alike data f t 66 = L := Prs.alike_ends data f t L HI.out.2.1 (by rw [← HT2.out.1, ← HT2.out.2]; exact hbe)
                  exact ⟨i0, Prs.upd m (d + 1) L, by omega, by go_num, HL6.out, by rw [← hA]; exact HS.out.2.2.2⟩
                case measure => simp [intOf]

/-- longest, wherever it is asked. -/
theorem longest_any {w : World} {M : Nat} {data : List UInt8} {t : Nat} {es : Array MapEntry} {clock : Nat} (h : Pm w M data t es clock) (pb po N pc : Nat) (hN : data.length = N) (hmax : N ≤ 4096) (hat : t ≤ N) (hc : ∀ i, i < data.length → w.cell? ⟨pb, po + i, none⟩ = some (.int .u8 (data.getD i 0).toNat)) :
    Calls Try.prog 44 #[.map (some M), .slice (some ⟨pb, po, none⟩) N pc, .int .i64 t] w fun e w' => e = .returned (mv (Prs.thr (Prs.mtch data t)).2 (Prs.thr (Prs.mtch data t)).1) ∧ Kept [] w w' := by
  rcases Nat.lt_or_ge N (t + 3) with h3 | h3
  · exact longest_few _ N pc t data hN hmax hat h3
  · exact longest_in h pb po N pc hN hmax h3 hc

end Go.Proofs.Ytdnbpklnkmgmkaa
