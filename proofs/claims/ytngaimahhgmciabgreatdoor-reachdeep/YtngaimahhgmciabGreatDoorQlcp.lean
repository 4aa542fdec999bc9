/-
  ReachDeep: the walk. (Written by tools/qlc.py.)
-/
import Derived.Test.YtngaimahhgmciabGreatDoorQlbp
namespace Go.Proofs.YtngaimahhgmciabGreatDoor
open Go.RowKit Go.Lib Go.Sort
set_option linter.unusedVariables false
set_option linter.unusedSimpArgs false

theorem wrap_u89 (k : Nat) (h : k < 256) : IntKind.u8.wrap (k : Int) = (k : Int) := by
  simp [IntKind.wrap, IntKind.min, IntKind.max, IntKind.bits, IntKind.signed]
  omega
theorem bys_idb (i : Nat) (h : i < 256) : bys (idb i) = .int .u8 (i : Int) :: List.replicate 31 (.int .u8 0) := by
  unfold idb bys
  rw [List.map_cons, UInt8.toNat_ofNat', Nat.mod_eq_of_lt h]
  rfl
theorem Tryz.buildId9 (x : Int) (w : World) : (Instr.build 36 #[(0, .int .u8 x)]).run Tryz.prog w = .ok (.agg (Value.int .u8 x :: List.replicate 31 (.int .u8 0)).toArray) w := by kernel_rfl
theorem build_id9 (i : Nat) (h : i < 256) (w : World) : (Instr.build 36 #[(0, .int .u8 ((i : Nat) : Int))]).run Tryz.prog w = .ok (.agg (bys (idb i)).toArray) w := by
  rw [bys_idb i h]; exact Tryz.buildId9 _ w
theorem Tryz.buildEnt9 (nm : ByteArray) (k : Int) (f : Nat → UInt8) (w : World) : (Instr.build 45 #[(0, .string nm), (1, .int .i64 k), (2, .agg (bys ((List.range 32).map f)).toArray)]).run Tryz.prog w = .ok (.agg (.string nm :: .int .i64 k :: bys ((List.range 32).map f)).toArray) w := by kernel_rfl
theorem build_ent9 (i : Nat) (w : World) : (Instr.build 45 #[(0, .string ⟨#[100]⟩), (1, .int .i64 3), (2, .agg (bys (idb i)).toArray)]).run Tryz.prog w = .ok (.agg (ej i).cells.toArray) w := by
  have h := Tryz.buildEnt9 ⟨#[100]⟩ 3 (fun k => (idb i).getD k 0) w
  rw [range32i (idb_len i)] at h
  exact h
theorem idb1 : idb 1 = i1 := rfl
theorem Mw9.set {w1 w w' w'' : World} {b : Nat} {M : List (List UInt8 × List UInt8)} {V : List Value} {q xs x0 : List UInt8} {vv : Value} {n j : Nat} (h : Mw9 w1 w b M V) (hk : Kept [] w w') (hk2 : Kept [b] w' w'') (ho : OwnB w' n vv xs) (hj : M[j]? = some (q, x0))
    (him : (q ∉ M.map (·.1) ∧ Im w'' b (M.map (·.1) ++ [q]) (V ++ [vv])) ∨ ∃ j, (M.map (·.1))[j]? = some q ∧ Im w'' b (M.map (·.1)) (V.set j vv)) (hl : xs.length ≤ 140737488355328) (hw : w1.heap.size ≤ n) : Mw9 w1 w'' b (M.set j (q, xs)) (V.set j vv) := by
  have hjl : j < M.length := (List.getElem?_eq_some_iff.1 hj).1
  have hjq : (M.map (·.1))[j]? = some q := by rw [List.getElem?_map, hj]; rfl
  rcases him with ⟨hn, _⟩ | ⟨j', hj', him⟩
  · exact absurd (List.mem_of_getElem? hjq) hn
  have e := nodup_idx h.im.nodup hj' hjq
  subst e
  have hVl : V.length = M.length := by have := h.im.len; rwa [List.length_map] at this
  have hks : (M.set j' (q, xs)).map (·.1) = M.map (·.1) := by
    apply List.ext_getElem?
    intro z
    rw [List.getElem?_map, List.getElem?_map, List.getElem?_set]
    by_cases e : j' = z
    · subst e; rw [if_pos rfl, if_pos hjl, hj]; rfl
    · rw [if_neg e]
  have hnm : ∀ {m : Nat} {v : Value} {ys : List UInt8}, OwnB w' m v ys → ∀ g, v.ownBlock = some g → g ∉ [b] := fun {m v ys} ho g hg hm => by
    simp only [List.mem_singleton] at hm
    subst hm
    obtain ⟨es, cl, e1, _⟩ := (h.im.kept hk (by simp))
    rcases ho.2 with ⟨rfl, _⟩ | ⟨g2, c2, cur, rfl, _, hb, _⟩
    · simp [Value.ownBlock] at hg
    · simp only [Value.ownBlock, Option.some.injEq] at hg
      subst hg
      rw [e1] at hb
      cases hb
  refine ⟨by rw [hks]; exact him, fun k hk' => ?_, fun p hp => ?_, h.far⟩
  · rw [List.length_set] at hk'
    rw [getD_set V j' k vv (by omega)]
    by_cases e : k = j'
    · subst e
      rw [if_pos rfl]
      have e2 : (M.set k (q, xs)).getD k ([], []) = (q, xs) := by rw [List.getD_eq_getElem?_getD, List.getElem?_set_self hk']; rfl
      rw [e2]
      have h1 := ho.kept hk2 (hnm ho)
      refine ⟨h1.1, ?_⟩
      rcases h1.2 with g1 | ⟨g, cap, cur, g1, g2, g3⟩
      · exact .inl g1
      · exact .inr ⟨g, cap, cur, g1, Nat.le_trans hw g2, g3⟩
    · rw [if_neg e]
      have e2 : (M.set j' (q, xs)).getD k ([], []) = M.getD k ([], []) := by rw [List.getD_eq_getElem?_getD, List.getElem?_set_ne (fun h => e h.symm), ← List.getD_eq_getElem?_getD]
      rw [e2]
      have h1 := (h.own k hk').kept hk (fun _ _ => by simp)
      exact h1.kept hk2 (hnm h1)
  · rcases List.mem_or_eq_of_mem_set hp with hp | rfl
    · exact h.len p hp
    · exact hl
theorem Ms9.mw {w1 w : World} {hi b : Nat} {M : List (List UInt8 × List UInt8)} {V : List Value} (h : Ms9 w1.heap.size hi b M V w) : Mw9 w1 w b M V := ⟨h.im, h.own, h.len, h.lob⟩

theorem mw_base9 {lo hi b : Nat} {w1 w : World} {M : List (List UInt8 × List UInt8)} {V : List Value} (h : Mw9 w1 w b M V) (hm : Mst lo hi b M w) (e : lo = w1.heap.size) : w1.heap.size ≤ w.heap.size := by
  have := h.far
  have := h.im.lt
  omega
set_option maxRecDepth 100000 in
theorem round9_ok (v : Int) (n : Nat) (hv : (Lit.int .i64 v).wf = true) (h1 : 1 ≤ n) (hn : n ≤ 4611686018427387904) (w : World) :
    Calls Tryz.prog 14 #[.int .i64 v, .int .i64 n] w fun e w' => ∃ k : Nat, k < n ∧ e = .returned (.int .i64 k) ∧ Kept [] w w' := by
  have hb1 : -(n : Int) < v.tmod (n : Int) := Int.lt_tmod_of_pos v (by omega)
  have hb2 : v.tmod (n : Int) < (n : Int) := Int.tmod_lt_of_pos v (by omega)
  have hnz : ¬ ((n : Int) = 0) := by omega
  obtain ⟨r, hr⟩ : ∃ r, v.tmod (n : Int) = r := ⟨_, rfl⟩
  rw [hr] at hb1 hb2
  have hnm1 : ¬ ((n : Int) = -1) := by omega
  by_cases hneg : r < 0
  · obtain ⟨k, hk⟩ : ∃ k : Nat, r + (n : Int) = (k : Int) := ⟨(r + n).toNat, by omega⟩
    have HKL : Hid (k < n) := hide (by omega)
    have hw : IntKind.i64.wrap (k : Int) = (k : Int) := by
      simp [IntKind.wrap, IntKind.min, IntKind.max, IntKind.bits, IntKind.signed]
      omega
    go_enter Tryz.func14, Tryz.ntmps14
    go_wp2
    go_ret
    exact ⟨k, HKL.out, rfl, Kept.refl _ _⟩
  · obtain ⟨k, hk⟩ : ∃ k : Nat, r = (k : Int) := ⟨r.toNat, by omega⟩
    have HKL : Hid (k < n) := hide (by omega)
    have hneg2 : ¬ (k : Int) < 0 := by omega
    rw [hk] at hr
    go_enter Tryz.func14, Tryz.ntmps14
    go_wp2
    go_ret
    exact ⟨k, HKL.out, rfl, Kept.refl _ _⟩

set_option maxHeartbeats 25600000 in
set_option maxRecDepth 100000 in
theorem deep_walk (a0 a1 : Int) (w : World) (gl : GlE w) (tabs : Tabs w) (wf0 : (Lit.int .i64 a0).wf = true) (wf1 : (Lit.int .i64 a1).wf = true) :
    Calls Tryz.prog 4 #[.int .i64 a0, .int .i64 a1] w fun e w' => e = .returned (.bool true) ∧ Kept [] w w' := by
  have hkn := known9_ok w gl tabs
  have HG := hide gl
  have HT := hide tabs
  have HWF := hide wf1
  have hmk : ∀ W : World, (Instr.makeMap 26 none).run Tryz.prog W = .ok (.map (some W.heap.size)) (W.alloc (.map #[] 0)) := fun _ => rfl
  clear gl tabs wf1
  go_enter Tryz.func4, Tryz.ntmps4
  go_upto_region 3 with (go_at_call 7; refine hkn.mono ?_; rintro e w0 ⟨rfl, hk0⟩; have HK0 := hide hk0; have hrd : Calls Tryz.prog 14 #[.int .i64 a0, .int .i64 12] w0 fun e w' => ∃ k : Nat, k < 12 ∧ e = .returned (.int .i64 k) ∧ Kept [] w0 w' := round9_ok a0 12 wf0 (by omega) (by omega) w0; clear hkn hk0)
  go_wp2_with (fail)
  refine hrd.mono ?_
  rintro e w1 ⟨k0, hk0, rfl, hk1⟩
  have HK1 := hide (HK0.out.trans hk1 (by simp))
  clear hrd hk1
  go_upto_region 4 with (fail)
  obtain ⟨n, hn⟩ : ∃ n : Nat, 1 + (k0 : Int) = (n : Int) := ⟨k0 + 1, by omega⟩
  rw [hn]
  have hn1 : 1 ≤ n := by omega
  have hn12 : n ≤ 12 := by omega
  clear hn hk0
  obtain ⟨bm, hbm⟩ : ∃ r, r = w1.heap.size := ⟨_, rfl⟩
  have HW1 : Hid (w1.heap.size ≤ w1.heap.size) := hide (Nat.le_refl _)
  have HM0 : Hid (∃ V', Mw9 w1 (w1.alloc (.map #[] 0)) bm (MD n 0 0) V' ∧ Kept [bm] w1 (w1.alloc (.map #[] 0))) := hide ⟨[], ⟨by rw [hbm]; exact new_im w1, fun j hj => by simp [MD] at hj, fun p hp => by simp [MD] at hp, by rw [hbm]; exact Nat.le_refl _⟩, (Kept.refl _ _).alloc _⟩
  have HBM : Hid (bm = w1.heap.size) := hide hbm
  go_upto_region 5 with (fail)
  rw [← hbm]
  clear hbm hmk
  generalize w1.alloc (.map #[] 0) = w2 at HM0 ⊢
  go_wp2
  go_loopw [7] (fun y wr => ∃ i : Nat, 1 ≤ i ∧ i ≤ n + 1 ∧ y = .int .i64 i ∧ Hid (∃ V', Mw9 w1 wr bm (MD n 0 (i - 1)) V' ∧ Kept [bm] w1 wr)) (fun y wr => n + 1 - (intOf y).toNat)
  case atStart => exact ⟨1, by omega, by omega, rfl, HM0⟩
  case round =>
    clear HM0
    obtain ⟨i, hi1, hin, rfl, HI⟩ := hrel
    obtain ⟨V, hmo, hkp⟩ := HI.out
    have HMo := hide hmo
    have HKP := hide hkp
    clear hmo hkp HI
    by_cases hle : i ≤ n
    · have hle1 : (i : Int) ≤ (n : Int) := by omega
      by_cases hlt : i < n
      · have hlt1 : (i : Int) < (n : Int) := by omega
        have hw1 : IntKind.i64.wrap ((i : Int) + 1) = ((i + 1 : Nat) : Int) := wrap_small9 (i + 1) (by omega)
        have hw2 : IntKind.u8.wrap (((i + 1 : Nat)) : Int) = ((i + 1 : Nat) : Int) := wrap_u89 (i + 1) (by omega)
        have hw3 : IntKind.u8.wrap (i : Int) = (i : Int) := wrap_u89 i (by omega)
        obtain ⟨i', hi'⟩ : ∃ i', i + 1 = i' := ⟨_, rfl⟩
        have HIS := hide hi'
        rw [hi'] at hw1 hw2
        have hi'2 : i' ≤ 13 := by omega
        have hbI28 := fun W => build_id9 i' (by omega) W
        have hbE := fun W => build_ent9 i' W
        clear hi'
        go_upto_region 11 with (first
          | (refine wpList_buildRun9 rfl 36 #[(0, .tmp 28)] rfl #[(0, .int .u8 ((i' : Nat) : Int))] (by simp [Act.eval]) _ (hbI28 _) ?_; try simp only [Act.put, List.setIfInBounds_toArray, List.set_cons_zero, List.set_cons_succ])
          | (refine wpList_buildRun9 rfl 45 #[(0, .const (.string ⟨#[100]⟩)), (1, .const (.int .i64 3)), (2, .tmp 29)] rfl #[(0, .string ⟨#[100]⟩), (1, .int .i64 3), (2, .agg (bys (idb i')).toArray)] (by simp [Act.eval]) _ (hbE _) ?_; try simp only [Act.put, List.setIfInBounds_toArray, List.set_cons_zero, List.set_cons_succ])
          | refine wpList_build1 rfl (.tmp 30) rfl (ej i') rfl (ej_ok i') ?_)
        have HKE : Hid (Kept [] wr (wr.alloc (.cells (ej i').cells.toArray 45))) := hide ((Kept.refl [] wr).alloc _)
        have hE : Ents (wr.alloc (.cells (ej i').cells.toArray 45)) (some ⟨wr.heap.size, 0, none⟩) [ej i'] := by
          intro z hz
          obtain rfl : z = 0 := by simp at hz; omega
          refine ⟨_, _, rfl, ?_, ej_ok i'⟩
          simpa using ent_range (heap_new wr _)
        have HVB : Hid (vb n 0 i = Tn.encd [ej i']) := hide (by unfold vb; rw [if_pos hlt, HIS.out])
        have HE := hide hE
        generalize wr.heap.size = b9 at hE HE ⊢
        generalize wr.alloc _ = wE at HKE HE hE ⊢
        clear hE hbI28 hbE hw1 hw2
        have hka := HKE.out
        have he := refencode_ok (some ⟨b9, 0, none⟩) 1 1 [ej i'] wE rfl (by omega) HE.out
        have hbI35 := fun W => build_id9 i (by omega) W
        go_wp2_with (first
          | (refine wpList_buildRun9 rfl 36 #[(0, .tmp 35)] rfl #[(0, .int .u8 ((i : Nat) : Int))] (by simp [Act.eval]) _ (hbI35 _) ?_; try simp only [Act.put, List.setIfInBounds_toArray, List.set_cons_zero, List.set_cons_succ])
          | (go_at_call 15; refine he.mono ?_; rintro e w6 ⟨⟨v, rfl, hv⟩, hb6⟩; have hk6 : Kept [] wr w6 := hka.trans (Kept.of_below hb6) (by simp); obtain ⟨w7, hup, hk7, _, him⟩ := (HMo.out.im.kept hk6 (by simp)).put (t := 26) Tryz.underlying26 (idb i) (idb_len i) v; have HU := hide (And.intro hv (And.intro hk6 (And.intro hk7 him))); clear he hv hb6 hk6 hk7 him)
          | refine wpList_mapUpdate rfl 26 (.tmp 33) (.tmp 36) (.tmp 39) rfl rfl (.map (some bm)) (.agg (bys (idb i)).toArray) v rfl rfl rfl w7 hup ?_)
        have HF : Hid (∃ V', Mw9 w1 w7 bm (MD n 0 i) V' ∧ Kept [bm] w1 w7) := hide (by
          obtain ⟨k, rfl⟩ : ∃ k, i = k + 1 := ⟨i - 1, by omega⟩
          have hM := HMo.out
          rw [show k + 1 - 1 = k by omega] at hM
          rw [MD_succ]
          refine ⟨_, mw_put (n := wE.heap.size) hM HU.out.2.1 HU.out.2.2.1 (by have := HU.out.1; rw [HVB.out]; exact this) (MD_new (by omega)) (by have := HU.out.2.2.2; rw [show k + 1 - 1 = k by omega] at this; exact this) (Nat.le_trans (vb_len (by omega) (by omega)) (by omega)) (Nat.le_trans (Nat.le_trans HW1.out HKP.out.size) HKE.out.size), (HKP.out.trans HU.out.2.1 (by simp)).trans HU.out.2.2.1 (fun j hj _ => hj)⟩)
        clear HU hup
        go_roundw
        case rel => exact ⟨i + 1, by omega, by omega, by go_num, HF⟩
        case measure => simp [intOf]; omega
      · have hlt1 : ¬ (i : Int) < (n : Int) := by omega
        have hw3 : IntKind.u8.wrap (i : Int) = (i : Int) := wrap_u89 i (by omega)
        have HVB : Hid (vb n 0 i = Tn.encd []) := hide (by unfold vb; rw [if_neg hlt, if_pos rfl])
        obtain ⟨wE, hwE⟩ : ∃ wE, wE = wr := ⟨_, rfl⟩
        have HKE : Hid (Kept [] wr wE) := hide (by rw [hwE]; exact Kept.refl _ _)
        go_upto_region 11 with (fail)
        rw [← hwE]
        clear hwE
        have hka := HKE.out
        have he := refencode_ok none 0 0 [] wE rfl (by omega) (Ents.nil _ _)
        have hbI35 := fun W => build_id9 i (by omega) W
        go_wp2_with (first
          | (refine wpList_buildRun9 rfl 36 #[(0, .tmp 35)] rfl #[(0, .int .u8 ((i : Nat) : Int))] (by simp [Act.eval]) _ (hbI35 _) ?_; try simp only [Act.put, List.setIfInBounds_toArray, List.set_cons_zero, List.set_cons_succ])
          | (go_at_call 15; refine he.mono ?_; rintro e w6 ⟨⟨v, rfl, hv⟩, hb6⟩; have hk6 : Kept [] wr w6 := hka.trans (Kept.of_below hb6) (by simp); obtain ⟨w7, hup, hk7, _, him⟩ := (HMo.out.im.kept hk6 (by simp)).put (t := 26) Tryz.underlying26 (idb i) (idb_len i) v; have HU := hide (And.intro hv (And.intro hk6 (And.intro hk7 him))); clear he hv hb6 hk6 hk7 him)
          | refine wpList_mapUpdate rfl 26 (.tmp 33) (.tmp 36) (.tmp 39) rfl rfl (.map (some bm)) (.agg (bys (idb i)).toArray) v rfl rfl rfl w7 hup ?_)
        have HF : Hid (∃ V', Mw9 w1 w7 bm (MD n 0 i) V' ∧ Kept [bm] w1 w7) := hide (by
          obtain ⟨k, rfl⟩ : ∃ k, i = k + 1 := ⟨i - 1, by omega⟩
          have hM := HMo.out
          rw [show k + 1 - 1 = k by omega] at hM
          rw [MD_succ]
          refine ⟨_, mw_put (n := wE.heap.size) hM HU.out.2.1 HU.out.2.2.1 (by have := HU.out.1; rw [HVB.out]; exact this) (MD_new (by omega)) (by have := HU.out.2.2.2; rw [show k + 1 - 1 = k by omega] at this; exact this) (Nat.le_trans (vb_len (by omega) (by omega)) (by omega)) (Nat.le_trans (Nat.le_trans HW1.out HKP.out.size) HKE.out.size), (HKP.out.trans HU.out.2.1 (by simp)).trans HU.out.2.2.1 (fun j hj _ => hj)⟩)
        clear HU hup
        go_roundw
        case rel => exact ⟨i + 1, by omega, by omega, by go_num, HF⟩
        case measure => simp [intOf]; omega
    · have hle1 : ¬ (i : Int) ≤ (n : Int) := by omega
      obtain rfl : i = n + 1 := by omega
      rw [show n + 1 - 1 = n by omega] at HMo
      obtain ⟨w5, rfl⟩ : ∃ w5, w5 = wr := ⟨_, rfl⟩
      have HK5 : Hid (Kept [] w w5) := hide (HK1.out.trans HKP.out (fun j hj hlt => by simp at hj; have := HBM.out; have := HK1.out.size; omega))
      have HBW : Hid (w.heap.size ≤ bm) := hide (by have := HBM.out; have := HK1.out.size; omega)
      obtain ⟨lo, hlo⟩ : ∃ r, r = w1.heap.size := ⟨_, rfl⟩
      obtain ⟨hi, hhi⟩ : ∃ r, w5.heap.size = r := ⟨_, rfl⟩
      have HLO := hide hlo
      have HHI := hide hhi
      have HLS : Hid (w.heap.size ≤ lo) := hide (by rw [hlo]; exact HK1.out.size)
      have HW9 : Hid (w.heap.size ≤ w.heap.size) := hide (Nat.le_refl _)
      have HGT : Hid (4 ≤ lo) := hide (Nat.le_trans HT.out.big HLS.out)
      have HMS : Hid (Mst lo hi bm (MD n 0 n) w5) := hide (by rw [hlo, ← hhi]; exact ⟨V, HMo.out.ms⟩)
      have HG5 : Hid (GlE w5 ∧ Tabs w5) := hide ⟨HG.out.kept HK5.out, HT.out.kept HK5.out (by simp)⟩
      clear hlo hhi HMo HKP hle
      go_wp2_with (fail)
      have hr1 := rss_one9 w5 i1 rfl
      have hka : Kept [] w5 (w5.alloc (.cells (rzk i1 rfl).cells.toArray 49)) := (Kept.refl [] w5).alloc _
      have hnd := need9_ok (ms_std (lo := lo) (hi := hi) (b := bm) (M := MD n 0 n) HGT.out) (HMS.out.kept hka) (fun k hk => by have := hk.2; have := hka.size; have := HHI.out; omega) (HG5.out.1.kept hka) (HG5.out.2.kept hka (by simp)) (some ⟨w5.heap.size, 0, none⟩) 1 1 [rzk i1 rfl] rfl hr1 (by rw [MD_len]; omega) (fun _ a ha => by cases ha; simp)
      refine Calls.mono (R := fun e w' => NdM (Rng lo hi) (Mst lo hi bm (MD n 0 n)) (MD n 0 n) [i1] (w5.alloc (.cells (rzk i1 rfl).cells.toArray 49)) e w') hnd ?_
      rintro e w6 hN
      have htl : Tls (mpf (MD n 0 n)) [idb 1] (walkW (mpf (MD n 0 n)) [] [i1]) := walk_sem (mpf_nofail (MD n 0 n)) [] [i1]
      obtain ⟨v, ev, rfl, hE⟩ := hN.tup
      have HK6 : Hid (Kept [] w w6) := hide (by
        have k2 := (Kp.ofKept (o := fun _ => False) (HK5.out.trans hka (by simp)) (by simp)).trans hN.kp (fun i hi hl => by have := hi.1; have := HLS.out; omega)
        exact ⟨k2.os, k2.tape, k2.output, k2.size, fun i hi hn => k2.block i hi (fun h => h)⟩)
      have HMS6 := hide hN.st
      have HG6 := hide (And.intro hN.gl hN.tabs)
      clear hN hnd hr1 hka HMS HG5 HHI HK5
      by_cases h6 : n ≤ 6
      · have hp := deep_flat hn1 h6 htl
        rcases hE with ⟨_, rfl, hov⟩ | ⟨cd, i, eb, h2, _⟩
        rotate_left
        · rw [show picks (walkW (mpf (MD n 0 n)) [] [i1]).2.1.B (walkW (mpf (MD n 0 n)) [] [i1]).2.2 (walkW (mpf (MD n 0 n)) [] [i1]).2.1.L = none from hp.1] at h2
          cases h2
        obtain ⟨a6, c6, e6, _⟩ := own_shape hov.1
        rw [show (canon (walkW (mpf (MD n 0 n)) [] [i1]).2.1.N).length = n from hp.2] at e6
        subst e6
        have h6i : (n : Int) ≤ 6 := by omega
        have h6n : ¬ (6 : Int) < (n : Int) := by omega
        have h6m : ¬ 6 < n := by omega
        obtain ⟨w7, hw7⟩ : ∃ w7, w7 = w6 := ⟨_, rfl⟩
        have HK7 : Hid (Kept [] w w7) := by rw [hw7]; exact HK6
        have HMS7 : Hid (Mst lo hi bm (MD n 0 n) w7) := by rw [hw7]; exact HMS6
        have HG7 : Hid (GlE w7 ∧ Tabs w7) := by rw [hw7]; exact HG6
        clear hp hov htl HK6 HMS6 HG6
        go_upto_region 17 with (fail)
        rw [← hw7]
        clear hw7 h6i h6n h6m
        have hrd := round9_ok a1 n HWF.out hn1 (by omega) w7
        go_wp2_with (fail)
        refine hrd.mono ?_
        rintro e w8 ⟨k1, hk1, rfl, hk8⟩
        obtain ⟨t, ht⟩ : ∃ t : Nat, t = k1 + 1 := ⟨_, rfl⟩
        have HT1 : Hid (1 ≤ t ∧ t ≤ n) := hide (by omega)
        have hwr : IntKind.u8.wrap (1 + (k1 : Int)) = 1 + (k1 : Int) := by
          have := wrap_u89 (k1 + 1) (by omega)
          rwa [show ((k1 + 1 : Nat) : Int) = 1 + (k1 : Int) by omega] at this
        have hbI74 : ∀ W : World, (Instr.build 36 #[(0, .int .u8 (1 + (k1 : Int)))]).run Tryz.prog W = .ok (.agg (bys (idb t)).toArray) W := fun W => by
          have := build_id9 (k1 + 1) (by omega) W
          rw [show ((k1 + 1 : Nat) : Int) = 1 + (k1 : Int) by omega] at this
          rw [ht]; exact this
        have hnz := new_atK w8 (.cells zeroI 36)
        have hia := ida (idb t) (idb_len t)
        have hiz := idz (idb t) (idb_len t)
        have hal := idall (idb t)
        have hz := Tryz.zeroId
        have HK8 := hide (HK7.out.trans hk8 (by simp))
        have HMS8 := hide (HMS7.out.kept hk8)
        have HG8 := hide (And.intro (HG7.out.1.kept hk8) (HG7.out.2.kept hk8 (by simp)))
        have HWK := hide (withId_kept w8 (idb t))
        have HRW := hide (row_rangeK (withId_row w8 (idb t)))
        clear hrd hk8 ht HK7 HMS7 HG7
        go_upto_region 18 with (first
          | (refine wpList_buildRun9 rfl 36 #[(0, .tmp 74)] rfl #[(0, .int .u8 (1 + (k1 : Int)))] (by simp [Act.eval]) _ (hbI74 _) ?_; try simp only [Act.put, List.setIfInBounds_toArray, List.set_cons_zero, List.set_cons_succ])
          | (refine wpList_store_rowTo rfl 36 (.tmp 11) (.tmp 75) rfl rfl w8.heap.size (bys (idb t)).toArray rfl rfl 36 zeroI hnz hia hiz hal ?_; try simp only [Act.put, List.setIfInBounds_toArray, List.set_cons_zero, List.set_cons_succ]))
        have hW : (w8.alloc (.cells zeroI 36)).setRow w8.heap.size (bys (idb t)).toArray = withId w8 (idb t) := rfl
        rw [hW]
        clear hnz hia hiz hal hz hW hwr hbI74 hk1
        have HMS9 := hide (HMS8.out.kept HWK.out)
        have HK9 := hide (HK8.out.trans HWK.out (by simp))
        have HG9 := hide (And.intro (HG8.out.1.kept HWK.out) (HG8.out.2.kept HWK.out (by simp)))
        clear HMS8 HK8 HG8 HWK
        generalize withId w8 (idb t) = w9 at HMS9 HK9 HG9 HRW ⊢
        generalize w8.heap.size = g11 at HRW ⊢
        have hrT := HRW.out
        have hTl := idl (idb t) (idb_len t)
        have hE : Ents (w9.alloc (.cells (ej t).cells.toArray 45)) (some ⟨w9.heap.size, 0, none⟩) [ej t] := by
          intro z hz
          obtain rfl : z = 0 := by simp at hz; omega
          refine ⟨_, _, rfl, ?_, ej_ok t⟩
          simpa using ent_range (heap_new w9 _)
        have he := refencode_ok (some ⟨w9.heap.size, 0, none⟩) 1 1 [ej t] _ rfl (by omega) hE
        have hka : Kept [] w9 (w9.alloc (.cells (ej t).cells.toArray 45)) := (Kept.refl [] w9).alloc _
        have hwn : IntKind.u8.wrap (n : Int) = (n : Int) := wrap_u89 n (by omega)
        have hbI79 := fun W => build_id9 n (by omega) W
        have hbE := fun W => build_ent9 t W
        obtain ⟨V9, hms9⟩ := HMS9.out
        rw [HLO.out] at hms9
        have HMw := hide hms9.mw
        clear hE hms9
        go_upto_region 19 with (first
          | (refine wpList_buildRun9 rfl 36 #[(0, .tmp 79)] rfl #[(0, .int .u8 ((n : Nat) : Int))] (by simp [Act.eval]) _ (hbI79 _) ?_; try simp only [Act.put, List.setIfInBounds_toArray, List.set_cons_zero, List.set_cons_succ])
          | (refine wpList_load_mid rfl 36 (.tmp 11) rfl g11 0 rfl (bys (idb t)) _ hrT Tryz.underlying36 rfl hTl ?_; try simp only [Act.put, List.setIfInBounds_toArray, List.set_cons_zero, List.set_cons_succ])
          | (refine wpList_buildRun9 rfl 45 #[(0, .const (.string ⟨#[100]⟩)), (1, .const (.int .i64 3)), (2, .tmp 81)] rfl #[(0, .string ⟨#[100]⟩), (1, .int .i64 3), (2, .agg (bys (idb t)).toArray)] (by simp [Act.eval]) _ (hbE _) ?_; try simp only [Act.put, List.setIfInBounds_toArray, List.set_cons_zero, List.set_cons_succ])
          | (refine wpList_build1 rfl (.tmp 82) rfl (ej t) rfl (ej_ok t) ?_; try simp only [Act.put, List.setIfInBounds_toArray, List.set_cons_zero, List.set_cons_succ])
          | (go_at_call 15; refine he.mono ?_; rintro e w10 ⟨⟨v2, rfl, hv⟩, hb10⟩; have hk10 : Kept [] w9 w10 := hka.trans (Kept.of_below hb10) (by simp); obtain ⟨w11, hup, hk11, hsz11, him⟩ := (HMw.out.im.kept hk10 (by simp)).put (t := 26) Tryz.underlying26 (idb n) (idb_len n) v2; have HU := hide (And.intro hv (And.intro hk10 (And.intro hk11 (And.intro him hka.size)))); clear hsz11 he hv hb10 hk10 hk11 him)
          | (refine wpList_mapUpdate rfl 26 (.tmp 77) (.tmp 80) (.tmp 85) rfl rfl (.map (some bm)) (.agg (bys (idb n)).toArray) v2 rfl rfl rfl w11 hup ?_; try simp only [Act.put, List.setIfInBounds_toArray, List.set_cons_zero, List.set_cons_succ]))
        have hMt : (MD n 0 n)[n - 1]? = some (idb n, vb n 0 n) := by
          have := MD_at (n := n) (t := 0) (k := n) (j := n - 1) (by omega)
          rwa [show n - 1 + 1 = n by omega] at this
        have hmw := Mw9.set (n := (w9.alloc (.cells (ej t).cells.toArray 45)).heap.size) HMw.out HU.out.2.1 HU.out.2.2.1 HU.out.1 hMt HU.out.2.2.2.1 (by rw [(ej_tree t (by have := HT1.out.2; omega)).2.2]; omega) (Nat.le_trans (mw_base9 HMw.out HMS9.out HLO.out) HU.out.2.2.2.2)
        have hMS : (MD n 0 n).set (n - 1) (idb n, Tn.encd [ej t]) = MD n t n := by
          have := MD_set (n := n) (t := t) hn1
          rwa [if_neg (by have := HT1.out.1; omega)] at this
        have e3 : Tn.encd [ej t] = Tn.encd [ej t] := rfl
        rw [hMS] at hmw
        have HMW := hide hmw
        have HK11 : Hid (Kept [] w w11) := hide ((HK9.out.trans HU.out.2.1 (by simp)).trans HU.out.2.2.1 (fun j hj hlt => by simp at hj; have := HBW.out; omega))
        clear hMt hmw hMS e3 hup hbI79 hbE hwn hrT hTl hka
        have HGT11 : Hid (GlE w11 ∧ Tabs w11) := hide ⟨HG.out.kept HK11.out, HT.out.kept HK11.out (by simp)⟩
        obtain ⟨hi2, hhi2⟩ : ∃ r, w11.heap.size = r := ⟨_, rfl⟩
        have HMS11 : Hid (Mst lo hi2 bm (MD n t n) w11) := hide (by rw [HLO.out, ← hhi2]; exact ⟨_, HMW.out.ms⟩)
        have HHI := hide hhi2
        clear hhi2 HU HMw HMS9 HK9 HG9 HMW
        go_wp2_with (fail)
        have hr1 := rss_one9 w11 i1 rfl
        have hka : Kept [] w11 (w11.alloc (.cells (rzk i1 rfl).cells.toArray 49)) := (Kept.refl [] w11).alloc _
        have hnd := need9_ok (ms_std (lo := lo) (hi := hi2) (b := bm) (M := MD n t n) HGT.out) (HMS11.out.kept hka) (fun k hk => by have := hk.2; have := hka.size; have := HHI.out; omega) (HGT11.out.1.kept hka) (HGT11.out.2.kept hka (by simp)) (some ⟨w11.heap.size, 0, none⟩) 1 1 [rzk i1 rfl] rfl hr1 (by rw [MD_len]; omega) (fun _ a ha => by cases ha; simp)
        refine Calls.mono (R := fun e w' => NdM (Rng lo hi2) (Mst lo hi2 bm (MD n t n)) (MD n t n) [i1] (w11.alloc (.cells (rzk i1 rfl).cells.toArray 49)) e w') hnd ?_
        rintro e w12 hN
        have htl : Tls (mpf (MD n t n)) [idb 1] (walkW (mpf (MD n t n)) [] [i1]) := walk_sem (mpf_nofail (MD n t n)) [] [i1]
        obtain ⟨ii, hp⟩ := deep_round hn1 hn12 HT1.out.1 HT1.out.2 htl
        obtain ⟨v, ev, rfl, hE⟩ := hN.tup
        have hp' : picks (walkW (mpf (MD n t n)) [] [i1]).2.1.B (walkW (mpf (MD n t n)) [] [i1]).2.2 (walkW (mpf (MD n t n)) [] [i1]).2.1.L = some (101, ii) := hp
        rcases hE with ⟨h2, _⟩ | ⟨cd, i, eb, h2, rfl, rfl, hfl, hne, hil⟩
        · rw [hp'] at h2; cases h2
        rw [hp'] at h2
        injection h2 with h2
        injection h2 with h2 h3
        subst h2
        subst h3
        have hcd := codeErrno_ok 1 _ 101 w12 hN.gl ⟨eb, _, rfl, hfl.err hil, rfl⟩
        have HK12 : Hid (Kept [] w w12) := hide (by
          have k2 := (Kp.ofKept (o := fun _ => False) (HK11.out.trans hka (by simp)) (by simp)).trans hN.kp (fun i hi hl => by have := hi.1; have := HLS.out; omega)
          exact ⟨k2.os, k2.tape, k2.output, k2.size, fun i hi hn => k2.block i hi (fun h => h)⟩)
        clear hN hfl hne hil hp hp' htl hnd hr1 hka
        unfold faultV at *
        go_wp2_with (go_at_call 12; refine hcd.mono ?_; rintro e w13 ⟨rfl, hk13⟩; have HK13 := hide (HK12.out.trans hk13 (by simp)); clear hcd hk13)
        go_ret
        exact ⟨rfl, HK13.out⟩
      · have hp := deep_long (by omega) hn12 htl
        have hp' : picks (walkW (mpf (MD n 0 n)) [] [i1]).2.1.B (walkW (mpf (MD n 0 n)) [] [i1]).2.2 (walkW (mpf (MD n 0 n)) [] [i1]).2.1.L = some (101, idb 7) := hp
        rcases hE with ⟨h2, _⟩ | ⟨cd, i, eb, h2, rfl, rfl, hfl, hne, hil⟩
        · rw [hp'] at h2; cases h2
        rw [hp'] at h2
        injection h2 with h2
        injection h2 with h2 h3
        subst h2
        subst h3
        have h6i : ¬ (n : Int) ≤ 6 := by omega
        have h6n : (6 : Int) < (n : Int) := by omega
        have h6m : 6 < n := by omega
        have hrf := refused9_ok eb opNeed (idb 7) 101 w6 HG6.out.1 hfl hil (by decide)
        rw [show (⟨opNeed.toArray⟩ : ByteArray) = ⟨#[114, 101, 97, 99, 104, 46, 110, 101, 101, 100]⟩ from rfl] at hrf
        clear hp hp' hfl hne hil htl
        unfold faultV at *
        go_wp2_with (fail)
        refine Calls.mono (R := fun e w' => e = .returned (.bool true) ∧ Kept [] w6 w') hrf ?_
        rintro e w7 ⟨rfl, hk7⟩
        have HK7 := hide (HK6.out.trans hk7 (by simp))
        have HMS7 := hide (HMS6.out.kept hk7)
        have HG7 := hide (And.intro (HG6.out.1.kept hk7) (HG6.out.2.kept hk7 (by simp)))
        clear hrf hk7 HK6 HMS6 HG6
        go_upto_region 17 with (fail)
        clear h6i h6n h6m
        have hrd := round9_ok a1 n HWF.out hn1 (by omega) w7
        go_wp2_with (fail)
        refine hrd.mono ?_
        rintro e w8 ⟨k1, hk1, rfl, hk8⟩
        obtain ⟨t, ht⟩ : ∃ t : Nat, t = k1 + 1 := ⟨_, rfl⟩
        have HT1 : Hid (1 ≤ t ∧ t ≤ n) := hide (by omega)
        have hwr : IntKind.u8.wrap (1 + (k1 : Int)) = 1 + (k1 : Int) := by
          have := wrap_u89 (k1 + 1) (by omega)
          rwa [show ((k1 + 1 : Nat) : Int) = 1 + (k1 : Int) by omega] at this
        have hbI74 : ∀ W : World, (Instr.build 36 #[(0, .int .u8 (1 + (k1 : Int)))]).run Tryz.prog W = .ok (.agg (bys (idb t)).toArray) W := fun W => by
          have := build_id9 (k1 + 1) (by omega) W
          rw [show ((k1 + 1 : Nat) : Int) = 1 + (k1 : Int) by omega] at this
          rw [ht]; exact this
        have hnz := new_atK w8 (.cells zeroI 36)
        have hia := ida (idb t) (idb_len t)
        have hiz := idz (idb t) (idb_len t)
        have hal := idall (idb t)
        have hz := Tryz.zeroId
        have HK8 := hide (HK7.out.trans hk8 (by simp))
        have HMS8 := hide (HMS7.out.kept hk8)
        have HG8 := hide (And.intro (HG7.out.1.kept hk8) (HG7.out.2.kept hk8 (by simp)))
        have HWK := hide (withId_kept w8 (idb t))
        have HRW := hide (row_rangeK (withId_row w8 (idb t)))
        clear hrd hk8 ht HK7 HMS7 HG7
        go_upto_region 18 with (first
          | (refine wpList_buildRun9 rfl 36 #[(0, .tmp 74)] rfl #[(0, .int .u8 (1 + (k1 : Int)))] (by simp [Act.eval]) _ (hbI74 _) ?_; try simp only [Act.put, List.setIfInBounds_toArray, List.set_cons_zero, List.set_cons_succ])
          | (refine wpList_store_rowTo rfl 36 (.tmp 11) (.tmp 75) rfl rfl w8.heap.size (bys (idb t)).toArray rfl rfl 36 zeroI hnz hia hiz hal ?_; try simp only [Act.put, List.setIfInBounds_toArray, List.set_cons_zero, List.set_cons_succ]))
        have hW : (w8.alloc (.cells zeroI 36)).setRow w8.heap.size (bys (idb t)).toArray = withId w8 (idb t) := rfl
        rw [hW]
        clear hnz hia hiz hal hz hW hwr hbI74 hk1
        have HMS9 := hide (HMS8.out.kept HWK.out)
        have HK9 := hide (HK8.out.trans HWK.out (by simp))
        have HG9 := hide (And.intro (HG8.out.1.kept HWK.out) (HG8.out.2.kept HWK.out (by simp)))
        clear HMS8 HK8 HG8 HWK
        generalize withId w8 (idb t) = w9 at HMS9 HK9 HG9 HRW ⊢
        generalize w8.heap.size = g11 at HRW ⊢
        have hrT := HRW.out
        have hTl := idl (idb t) (idb_len t)
        have hE : Ents (w9.alloc (.cells (ej t).cells.toArray 45)) (some ⟨w9.heap.size, 0, none⟩) [ej t] := by
          intro z hz
          obtain rfl : z = 0 := by simp at hz; omega
          refine ⟨_, _, rfl, ?_, ej_ok t⟩
          simpa using ent_range (heap_new w9 _)
        have he := refencode_ok (some ⟨w9.heap.size, 0, none⟩) 1 1 [ej t] _ rfl (by omega) hE
        have hka : Kept [] w9 (w9.alloc (.cells (ej t).cells.toArray 45)) := (Kept.refl [] w9).alloc _
        have hwn : IntKind.u8.wrap (n : Int) = (n : Int) := wrap_u89 n (by omega)
        have hbI79 := fun W => build_id9 n (by omega) W
        have hbE := fun W => build_ent9 t W
        obtain ⟨V9, hms9⟩ := HMS9.out
        rw [HLO.out] at hms9
        have HMw := hide hms9.mw
        clear hE hms9
        go_upto_region 19 with (first
          | (refine wpList_buildRun9 rfl 36 #[(0, .tmp 79)] rfl #[(0, .int .u8 ((n : Nat) : Int))] (by simp [Act.eval]) _ (hbI79 _) ?_; try simp only [Act.put, List.setIfInBounds_toArray, List.set_cons_zero, List.set_cons_succ])
          | (refine wpList_load_mid rfl 36 (.tmp 11) rfl g11 0 rfl (bys (idb t)) _ hrT Tryz.underlying36 rfl hTl ?_; try simp only [Act.put, List.setIfInBounds_toArray, List.set_cons_zero, List.set_cons_succ])
          | (refine wpList_buildRun9 rfl 45 #[(0, .const (.string ⟨#[100]⟩)), (1, .const (.int .i64 3)), (2, .tmp 81)] rfl #[(0, .string ⟨#[100]⟩), (1, .int .i64 3), (2, .agg (bys (idb t)).toArray)] (by simp [Act.eval]) _ (hbE _) ?_; try simp only [Act.put, List.setIfInBounds_toArray, List.set_cons_zero, List.set_cons_succ])
          | (refine wpList_build1 rfl (.tmp 82) rfl (ej t) rfl (ej_ok t) ?_; try simp only [Act.put, List.setIfInBounds_toArray, List.set_cons_zero, List.set_cons_succ])
          | (go_at_call 15; refine he.mono ?_; rintro e w10 ⟨⟨v2, rfl, hv⟩, hb10⟩; have hk10 : Kept [] w9 w10 := hka.trans (Kept.of_below hb10) (by simp); obtain ⟨w11, hup, hk11, hsz11, him⟩ := (HMw.out.im.kept hk10 (by simp)).put (t := 26) Tryz.underlying26 (idb n) (idb_len n) v2; have HU := hide (And.intro hv (And.intro hk10 (And.intro hk11 (And.intro him hka.size)))); clear hsz11 he hv hb10 hk10 hk11 him)
          | (refine wpList_mapUpdate rfl 26 (.tmp 77) (.tmp 80) (.tmp 85) rfl rfl (.map (some bm)) (.agg (bys (idb n)).toArray) v2 rfl rfl rfl w11 hup ?_; try simp only [Act.put, List.setIfInBounds_toArray, List.set_cons_zero, List.set_cons_succ]))
        have hMt : (MD n 0 n)[n - 1]? = some (idb n, vb n 0 n) := by
          have := MD_at (n := n) (t := 0) (k := n) (j := n - 1) (by omega)
          rwa [show n - 1 + 1 = n by omega] at this
        have hmw := Mw9.set (n := (w9.alloc (.cells (ej t).cells.toArray 45)).heap.size) HMw.out HU.out.2.1 HU.out.2.2.1 HU.out.1 hMt HU.out.2.2.2.1 (by rw [(ej_tree t (by have := HT1.out.2; omega)).2.2]; omega) (Nat.le_trans (mw_base9 HMw.out HMS9.out HLO.out) HU.out.2.2.2.2)
        have hMS : (MD n 0 n).set (n - 1) (idb n, Tn.encd [ej t]) = MD n t n := by
          have := MD_set (n := n) (t := t) hn1
          rwa [if_neg (by have := HT1.out.1; omega)] at this
        have e3 : Tn.encd [ej t] = Tn.encd [ej t] := rfl
        rw [hMS] at hmw
        have HMW := hide hmw
        have HK11 : Hid (Kept [] w w11) := hide ((HK9.out.trans HU.out.2.1 (by simp)).trans HU.out.2.2.1 (fun j hj hlt => by simp at hj; have := HBW.out; omega))
        clear hMt hmw hMS e3 hup hbI79 hbE hwn hrT hTl hka
        have HGT11 : Hid (GlE w11 ∧ Tabs w11) := hide ⟨HG.out.kept HK11.out, HT.out.kept HK11.out (by simp)⟩
        obtain ⟨hi2, hhi2⟩ : ∃ r, w11.heap.size = r := ⟨_, rfl⟩
        have HMS11 : Hid (Mst lo hi2 bm (MD n t n) w11) := hide (by rw [HLO.out, ← hhi2]; exact ⟨_, HMW.out.ms⟩)
        have HHI := hide hhi2
        clear hhi2 HU HMw HMS9 HK9 HG9 HMW
        go_wp2_with (fail)
        have hr1 := rss_one9 w11 i1 rfl
        have hka : Kept [] w11 (w11.alloc (.cells (rzk i1 rfl).cells.toArray 49)) := (Kept.refl [] w11).alloc _
        have hnd := need9_ok (ms_std (lo := lo) (hi := hi2) (b := bm) (M := MD n t n) HGT.out) (HMS11.out.kept hka) (fun k hk => by have := hk.2; have := hka.size; have := HHI.out; omega) (HGT11.out.1.kept hka) (HGT11.out.2.kept hka (by simp)) (some ⟨w11.heap.size, 0, none⟩) 1 1 [rzk i1 rfl] rfl hr1 (by rw [MD_len]; omega) (fun _ a ha => by cases ha; simp)
        refine Calls.mono (R := fun e w' => NdM (Rng lo hi2) (Mst lo hi2 bm (MD n t n)) (MD n t n) [i1] (w11.alloc (.cells (rzk i1 rfl).cells.toArray 49)) e w') hnd ?_
        rintro e w12 hN
        have htl : Tls (mpf (MD n t n)) [idb 1] (walkW (mpf (MD n t n)) [] [i1]) := walk_sem (mpf_nofail (MD n t n)) [] [i1]
        obtain ⟨ii, hp⟩ := deep_round hn1 hn12 HT1.out.1 HT1.out.2 htl
        obtain ⟨v, ev, rfl, hE⟩ := hN.tup
        have hp' : picks (walkW (mpf (MD n t n)) [] [i1]).2.1.B (walkW (mpf (MD n t n)) [] [i1]).2.2 (walkW (mpf (MD n t n)) [] [i1]).2.1.L = some (101, ii) := hp
        rcases hE with ⟨h2, _⟩ | ⟨cd, i, eb, h2, rfl, rfl, hfl, hne, hil⟩
        · rw [hp'] at h2; cases h2
        rw [hp'] at h2
        injection h2 with h2
        injection h2 with h2 h3
        subst h2
        subst h3
        have hcd := codeErrno_ok 1 _ 101 w12 hN.gl ⟨eb, _, rfl, hfl.err hil, rfl⟩
        have HK12 : Hid (Kept [] w w12) := hide (by
          have k2 := (Kp.ofKept (o := fun _ => False) (HK11.out.trans hka (by simp)) (by simp)).trans hN.kp (fun i hi hl => by have := hi.1; have := HLS.out; omega)
          exact ⟨k2.os, k2.tape, k2.output, k2.size, fun i hi hn => k2.block i hi (fun h => h)⟩)
        clear hN hfl hne hil hp hp' htl hnd hr1 hka
        unfold faultV at *
        go_wp2_with (go_at_call 12; refine hcd.mono ?_; rintro e w13 ⟨rfl, hk13⟩; have HK13 := hide (HK12.out.trans hk13 (by simp)); clear hcd hk13)
        go_ret
        exact ⟨rfl, HK13.out⟩

end Go.Proofs.YtngaimahhgmciabGreatDoor
