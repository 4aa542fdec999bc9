import Derived.Test.YtngaimahhgmciabGreatDoorQpbv
import Derived.Test.YtngaimahhgmciabGreatDoorK9needv
namespace Go.Proofs.YtngaimahhgmciabGreatDoor
section
open Go.RowKit Go.Lib Go.Sort
set_option linter.unusedVariables false
set_option linter.unusedSimpArgs false

theorem wp_mapUpdate_run9 {w : World} {o : Oper} {a : Act} {K : Act → World → Prop} {Q : Exit → Act → World → Prop} (d s r : Operand) (t : TypeId)
    (ho : o.op = .mapUpdate t d s r) (v u x : Value) (hd : a.eval d = v) (hs : a.eval s = u) (hx : a.eval r = x) {w' : World}
    (hr : (Instr.mapUpdate t v u x).run Tryz.prog w = .ok () w') (h : K (a.put o.dst undef) w') : o.wp Tryz.prog a w K Q := by
  unfold Oper.wp execOp
  simp [ho, hd, hs, hx, hr, Result.andThen]
  exact h
theorem sl3 (a b c : Option Addr) (n1 n2 n3 m1 m2 m3 : Nat) : (#[.slice a n1 m1, .slice b n2 m2, .slice c n3 m3] : Array Value).all (·.oneCell') = true := by simp [Value.oneCell']
/-- append([]byte{}, row...). -/
theorem run_freshB9 (w : World) (ys : List UInt8) (ao : Option Addr) (n c : Nat) (hn : ys.length = n) (hs : Sl w ao ys) (h0 : ao = none → ys = [] ∧ c = 0) (hl : n ≤ 140737488355328) :
    ∃ v' w', (Builtin.append_ #[33, 33] 33 #[.slice (some ⟨w.heap.size, 0, none⟩) 0 0, .slice ao n c]).run Tryz.prog (w.alloc (.cells #[] 5)) = .ok v' w' ∧ OwnB w' w.heap.size v' ys ∧ Kept [] w w' := by
  have hown : (w.alloc (.cells #[] 5)).ownsRow w.heap.size 5 1 (.slice (some ⟨w.heap.size, 0, none⟩) 0 0) 0 [] := World.ownsRow_made w #[] 0 (Nat.le_refl _) (by decide) rfl
  have hk := (Kept.refl [] w).alloc (.cells #[] 5)
  obtain ⟨i0, hi, hz0, hz1, hz2⟩ := info_parts Tryz.infoByte3
  cases ao with
  | none =>
    obtain ⟨rfl, rfl⟩ := h0 rfl
    have hn : 0 = n := hn
    subst hn
    exact ⟨_, _, run_append_owned_none (P := Tryz.prog) (w := w.alloc (.cells #[] 5)) w.heap.size 33 33 5 i0 1 Tryz.underlying33 hi _ 0 [] hown, hown, hk⟩
  | some ad =>
    obtain ⟨v', w', hrun, h1', h2, h3, h4⟩ := run_append_own_at (P := Tryz.prog) (w.alloc (.cells #[] 5)) w.heap.size 33 33 5 i0 (.int .u8 0) 1 1 Tryz.underlying33 hi hz0 hz1 hz2 rfl (by decide) _ 0 [] hown ad n c (bys ys) (by rw [bys_length, hn]; omega) (fun j u hj => by
      obtain ⟨hj2, rfl⟩ := bys_get hj
      obtain ⟨b, off, e1, hc⟩ := hs j hj2
      cases e1
      rw [show ((⟨b, off, none⟩ : Addr).add j) = ⟨b, off + j, none⟩ from by unfold Addr.add; by_cases h : j = 0 <;> simp [h]]
      exact hk.cellOf hc (by simp)) (bys_oneCell ys) (by unfold maxLen; omega) (by omega) hk.size
    rw [Nat.zero_add, List.nil_append] at h1'
    refine ⟨v', w', hrun, ?_, hk.grown h2 (by intro k hk2 hlt; simp [Value.ownBlock] at hk2; omega)⟩
    unfold OwnB
    rw [hn]
    exact h1'

theorem own_at9 {w : World} {B : Nat} {e : TypeId} {ao : Option Addr} {n c : Nat} {xs : List Value} (h : w.ownsRow B e 1 (.slice ao n c) n xs) (k : Nat) (hk : k < n) : ∃ g o, ao = some ⟨g, o, none⟩ ∧ w.cell? ⟨g, o + k, none⟩ = some (xs.getD k unitv) ∧ B ≤ g := by
  have hl : xs.length = n := by have := h.1; omega
  rcases h.2 with ⟨_, e2⟩ | ⟨g, cap, cur, e1, hb, hg, _⟩
  · omega
  · injection e1 with e1 _ _
    subst e1
    refine ⟨g, 0, rfl, ?_, hb⟩
    have := h.cells (g := g) rfl k (xs.getD k unitv) (by rw [List.getD_eq_getElem?_getD, List.getElem?_eq_getElem (by omega)]; rfl)
    rw [show ((⟨g, 0, none⟩ : Addr).add k) = ⟨g, 0 + k, none⟩ from by unfold Addr.add; by_cases h : k = 0 <;> simp [h]] at this
    exact this
/-- What is there of some ids, as a Map has it. -/
def map9 (L : List It9) (K : List (List UInt8)) : List (List UInt8 × List UInt8) := (K.filter (fun q => (fst9 L q).code == 0)).map (fun q => (q, (fst9 L q).bs))
theorem map9_keys (L : List It9) (K : List (List UInt8)) : (map9 L K).map (·.1) = K.filter (fun q => (fst9 L q).code == 0) := by
  unfold map9
  rw [List.map_map]
  exact List.map_id _
theorem map9_snoc (L : List It9) (K : List (List UInt8)) (q : List UInt8) : map9 L (K ++ [q]) = if (fst9 L q).code = 0 then map9 L K ++ [(q, (fst9 L q).bs)] else map9 L K := by
  unfold map9
  rw [List.filter_append, List.map_append]
  by_cases h : (fst9 L q).code = 0
  · simp [h]
  · simp [h]
theorem map9_len (L : List It9) (K : List (List UInt8)) : (map9 L K).length ≤ K.length := by
  unfold map9
  rw [List.length_map]
  exact List.length_filter_le _ _
theorem fst9_in {L : List It9} {q : List UInt8} (h : q ∈ ids9 L) : ∃ z, z < L.length ∧ fst9 L q = L.getD z it0 ∧ (L.getD z it0).id = q := by
  obtain ⟨y, hy, e⟩ := List.mem_map.1 (mem_canon.1 h)
  have hm := List.mem_of_mem_take hy
  cases hf : L.find? (fun x => x.id == q) with
  | none =>
    rw [List.find?_eq_none] at hf
    exact absurd (by simpa using e) (hf y hm)
  | some t =>
    obtain ⟨z, hz, e2⟩ := List.getElem_of_mem (List.mem_of_find?_eq_some hf)
    have h2 := List.find?_some hf
    simp only [beq_iff_eq] at h2
    have e3 : L.getD z it0 = t := by rw [← e2]; simp [List.getElem?_eq_getElem hz]
    exact ⟨z, hz, by unfold fst9; rw [hf, e3]; rfl, by rw [e3]; exact h2⟩

theorem getD_lt9 {α : Type} (l m : List α) (j : Nat) (d : α) (h : j < l.length) : (l ++ m).getD j d = l.getD j d := by simp [List.getD_eq_getElem?_getD, List.getElem?_append_left h]
theorem getD_eq9 {α : Type} (l : List α) (x d : α) : (l ++ [x]).getD l.length d = x := by simp
/-- A Map whose rows are all made since w1, and so is it. -/
structure Mw9 (w1 w : World) (b : Nat) (M : List (List UInt8 × List UInt8)) (V : List Value) : Prop where
  im : Im w b (M.map (·.1)) V
  own : ∀ j, j < M.length → OwnB w w1.heap.size (V.getD j unitv) (M.getD j ([], [])).2
  len : ∀ p ∈ M, p.2.length ≤ 140737488355328
  far : w1.heap.size ≤ b
theorem mw_put {w1 w w' w'' : World} {b : Nat} {M : List (List UInt8 × List UInt8)} {V : List Value} {q xs : List UInt8} {vv : Value} {n : Nat} (h : Mw9 w1 w b M V) (hk : Kept [] w w') (hk2 : Kept [b] w' w'') (ho : OwnB w' n vv xs) (hn : q ∉ M.map (·.1))
    (him : (q ∉ M.map (·.1) ∧ Im w'' b (M.map (·.1) ++ [q]) (V ++ [vv])) ∨ ∃ j, (M.map (·.1))[j]? = some q ∧ Im w'' b (M.map (·.1)) (V.set j vv)) (hl : xs.length ≤ 140737488355328) (hw : w1.heap.size ≤ n) : Mw9 w1 w'' b (M ++ [(q, xs)]) (V ++ [vv]) := by
  rcases him with ⟨_, him⟩ | ⟨j, hj, _⟩
  · have hVl : V.length = M.length := by have := h.im.len; rwa [List.length_map] at this
    have hnm : ∀ {m : Nat} {v : Value} {ys : List UInt8}, OwnB w' m v ys → ∀ g, v.ownBlock = some g → g ∉ [b] := fun {m v ys} ho g hg hm => by
      simp only [List.mem_singleton] at hm
      subst hm
      obtain ⟨es, cl, e1, _⟩ := (h.im.kept hk (by simp))
      rcases ho.2 with ⟨rfl, _⟩ | ⟨g2, c2, cur, rfl, _, hb, _⟩
      · simp [Value.ownBlock] at hg
      · simp only [Value.ownBlock, Option.some.injEq] at hg
        subst hg
        rw [e1] at hb
        cases hb
    refine ⟨by rw [List.map_append]; exact him, fun j hj => ?_, fun p hp => ?_, h.far⟩
    · rw [List.length_append] at hj
      simp only [List.length_cons, List.length_nil] at hj
      by_cases e : j < M.length
      · rw [getD_lt9 V [vv] j unitv (by omega), getD_lt9 M _ j _ e]
        have h1 := (h.own j e).kept hk (fun _ _ => by simp)
        exact h1.kept hk2 (hnm h1)
      · have e2 : j = M.length := by omega
        subst e2
        rw [getD_eq9 M, show M.length = V.length from hVl.symm, getD_eq9 V]
        have h1 := ho.kept hk2 (hnm ho)
        refine ⟨h1.1, ?_⟩
        rcases h1.2 with g1 | ⟨g, cap, cur, g1, g2, g3⟩
        · exact .inl g1
        · exact .inr ⟨g, cap, cur, g1, Nat.le_trans hw g2, g3⟩
    · rw [List.mem_append, List.mem_singleton] at hp
      rcases hp with hp | rfl
      · exact h.len p hp
      · exact hl
  · exact absurd (List.mem_of_getElem? hj) hn

set_option maxHeartbeats 3200000 in
set_option maxRecDepth 100000 in
theorem mapped9_ok (ao : Option Addr) (n cap : Nat) (L : List It9) (w : World) (h : InI w ao n cap L) :
    Calls Tryz.prog 8 #[.slice ao n cap] w fun e w' => ∃ b V, e = .returned (.map (some b)) ∧ Mw9 w w' b (map9 L (ids9 L)) V ∧ Kept [] w w' := by
  have HIN := hide h.its
  have hcm := h.max
  have hnc := h.le
  have hn : n ≤ 4611686018427387904 := by omega
  have hz := Tryz.zeroSr9
  have hmk : ∀ W : World, (Instr.makeMap 26 none).run Tryz.prog W = .ok (.map (some W.heap.size)) (W.alloc (.map #[] 0)) := fun _ => rfl
  obtain ⟨bm, hbm⟩ : ∃ r, r = w.heap.size := ⟨_, rfl⟩
  obtain ⟨w1, hw1⟩ : ∃ w1, w1 = w.alloc (.map #[] 0) := ⟨_, rfl⟩
  have hk1 : Kept [] w w1 := by rw [hw1]; exact (Kept.refl [] w).alloc _
  have hi1 : Im w1 bm [] [] := by rw [hw1, hbm]; exact new_im w
  have hpl := plain9_ok ao n cap L w1 (h.kept hk1)
  have HK1 := hide hk1
  have HI1 := hide hi1
  have HBM : Hid (bm = w.heap.size) := hide hbm
  clear h hcm hnc hk1 hi1
  go_enter Tryz.func8, Tryz.ntmps8
  go_upto_region 2 with (fail)
  rw [← hbm, ← hw1]
  clear hbm hw1 hmk
  have hia := Tryz.infoSr9
  go_upto_region 3 with (first
    | (go_at_call 21; refine hpl.mono ?_; rintro e w2 ⟨vi, vd, vc, rfl, hs⟩; have HS := hide hs; obtain ⟨aI, cI, hvi, _⟩ := own_shape hs.ids.1; obtain ⟨aD, cD, hvd, _⟩ := own_shape hs.dat; obtain ⟨aC, cC, hvc, _⟩ := own_shape hs.cod; subst hvi; subst hvd; subst hvc; have hnz := new_atK w2 (.cells zeroS 70); clear hpl hs)
    | refine wpList_store_rowTo rfl 70 (.tmp 4) (.tmp 8) rfl rfl w2.heap.size #[.slice aI (ids9 L).length cI, .slice aD (dat9 L (ids9 L)).length cD, .slice aC (cod9 L (ids9 L)).length cC] rfl rfl 70 zeroS hnz hia rfl (sl3 _ _ _ _ _ _ _ _ _) ?_)
  have HT4 : Hid (((w2.alloc (.cells zeroS 70)).setRow w2.heap.size #[.slice aI (ids9 L).length cI, .slice aD (dat9 L (ids9 L)).length cD, .slice aC (cod9 L (ids9 L)).length cC]).heap[w2.heap.size]? = some (.cells #[.slice aI (ids9 L).length cI, .slice aD (dat9 L (ids9 L)).length cD, .slice aC (cod9 L (ids9 L)).length cC] 70 (0, 0))) := hide (setRow_heap _ _ _ _ _ _ hnz)
  have HK3 : Hid (Kept [] w2 ((w2.alloc (.cells zeroS 70)).setRow w2.heap.size #[.slice aI (ids9 L).length cI, .slice aD (dat9 L (ids9 L)).length cD, .slice aC (cod9 L (ids9 L)).length cC])) := hide (kept_rowK ((Kept.refl [] w2).alloc _) (fun h => absurd h (Nat.lt_irrefl _)) _)
  have hDl : (dat9 L (ids9 L)).length = (ids9 L).length := by unfold dat9; rw [List.length_map]
  have hCl : (cod9 L (ids9 L)).length = (ids9 L).length := by unfold cod9; rw [List.length_map]
  have hm60 := ids9_len L
  have HSI := hide HS.out.ids
  have HSD := hide HS.out.dat
  have HSC := hide HS.out.cod
  have HSK := hide HS.out.kp
  clear HS hnz hia hz
  rw [hDl] at HT4 HK3 HSD ⊢
  rw [hCl] at HT4 HK3 HSC ⊢
  obtain ⟨m, hm⟩ : ∃ m, (ids9 L).length = m := ⟨_, rfl⟩
  have HM := hide hm
  rw [hm] at HT4 HK3 HSD HSC HSI hm60 ⊢
  generalize (w2.alloc (.cells zeroS 70)).setRow w2.heap.size #[.slice aI m cI, .slice aD m cD, .slice aC m cC] = w3 at HT4 HK3 ⊢
  obtain ⟨T4, hT4⟩ : ∃ r, w2.heap.size = r := ⟨_, rfl⟩
  have HT4S : Hid (T4 = w2.heap.size) := hide hT4.symm
  rw [hT4] at HT4 ⊢
  clear hm hDl hCl hT4
  have HK13 := hide (HSK.out.trans HK3.out (by simp))
  have HMo0 : Hid (∃ V', Mw9 w w3 bm (map9 L ((ids9 L).take 0)) V' ∧ Kept [bm] w1 w3) := hide ⟨[], ⟨HI1.out.kept HK13.out (by simp), fun j hj => by simp [map9] at hj, fun p hp => by simp [map9] at hp, by rw [HBM.out]; exact Nat.le_refl _⟩, HK13.out.mono (by simp)⟩
  go_wp2
  go_loopw [5] (fun x wr => ∃ k : Nat, k ≤ m ∧ x = .int .i64 k ∧ Hid (∃ V', Mw9 w wr bm (map9 L ((ids9 L).take k)) V' ∧ Kept [bm] w1 wr ∧ Kept [bm] w3 wr)) (fun x wr => m - (intOf x).toNat)
  case atStart => exact ⟨0, by omega, rfl, hide (by obtain ⟨V', h1, h2⟩ := HMo0.out; exact ⟨V', h1, h2, Kept.refl _ _⟩)⟩
  case round =>
    clear HMo0
    obtain ⟨k, hk, rfl, HI⟩ := hrel
    obtain ⟨V, hmo, hkp, hk3⟩ := HI.out
    have HMo := hide hmo
    have HKP := hide hkp
    have HK3r := hide hk3
    have hTb : T4 ≠ bm := by
      have h1 := (Array.getElem?_eq_some_iff.1 HI1.out.choose_spec.choose_spec.1).1
      have := HT4S.out
      have := HSK.out.size
      omega
    have hT4r : wr.heap[T4]? = some (.cells #[.slice aI m cI, .slice aD m cD, .slice aC m cC] 70 (0, 0)) := by
      rw [hk3.block T4 (Array.getElem?_eq_some_iff.1 HT4.out).1 (by simpa using hTb)]
      exact HT4.out
    have c0 : wr.cell? ⟨T4, 0, none⟩ = some (.slice aI m cI) := by rw [cell_of_row _ _ _ _ _ _ hT4r]; rfl
    have c1 : wr.cell? ⟨T4, 1, none⟩ = some (.slice aD m cD) := by rw [cell_of_row _ _ _ _ _ _ hT4r]; rfl
    have c2 : wr.cell? ⟨T4, 2, none⟩ = some (.slice aC m cC) := by rw [cell_of_row _ _ _ _ _ _ hT4r]; rfl
    clear hmo hkp hk3 HI hT4r
    by_cases hlt : k < m
    · have hkl : k < (ids9 L).length := by rw [HM.out]; exact hlt
      have HTK0 : Hid ((ids9 L).take (k + 1) = (ids9 L).take k ++ [(ids9 L).getD k []]) := hide (by rw [List.take_succ_eq_append_getElem hkl, List.getD_eq_getElem?_getD, List.getElem?_eq_getElem hkl]; rfl)
      have HQI : Hid ((ids9 L).getD k [] ∈ ids9 L) := hide (gmem9 hkl)
      obtain ⟨g1, o1, hao1, hrq2⟩ := HSI.out.ids.1.1 k hkl
      obtain ⟨q, hqe⟩ : ∃ q, (ids9 L).getD k [] = q := ⟨_, rfl⟩
      rw [hqe] at hrq2 HTK0 HQI
      have hq : q.length = 32 := HSI.out.2 _ HQI.out
      have HNQ : Hid (q ∉ (map9 L ((ids9 L).take k)).map (·.1)) := hide (fun hm => by
        rw [map9_keys] at hm
        have h1 := (List.mem_filter.1 hm).1
        have h2 := up_canon ((L.take 60).map (·.id))
        have h3 : Up ((ids9 L).take (k + 1)) := List.Pairwise.sublist (List.take_sublist _ _) h2
        rw [HTK0.out] at h3
        unfold Up at h3
        have h4 := (List.pairwise_append.1 h3).2.2 q h1 q (by simp)
        rw [cmp_self] at h4
        exact absurd h4 (by decide))
      obtain ⟨z, hz, hfz, _⟩ := fst9_in HQI.out
      have hin := (HIN.out z hz).2
      rw [← hfz] at hin
      obtain ⟨g2, o2, hao2, hcd2, hB2⟩ := own_at9 HSD.out k (by omega)
      obtain ⟨g3, o3, hao3, hcc2, hB3⟩ := own_at9 HSC.out k (by omega)
      have e1 : (dat9 L (ids9 L)).getD k unitv = (fst9 L q).dv := by
        unfold dat9
        rw [List.getD_eq_getElem?_getD, List.getElem?_map, List.getElem?_eq_getElem hkl, ← hqe, List.getD_eq_getElem?_getD, List.getElem?_eq_getElem hkl]
        rfl
      have e2 : (cod9 L (ids9 L)).getD k unitv = .int .i64 (fst9 L q).code := by
        unfold cod9
        rw [List.getD_eq_getElem?_getD, List.getElem?_map, List.getElem?_eq_getElem hkl, ← hqe, List.getD_eq_getElem?_getD, List.getElem?_eq_getElem hkl]
        rfl
      rw [e1] at hcd2
      rw [e2] at hcc2
      have hB1 : w1.heap.size ≤ g1 := by
        rcases HSI.out.1.2 with ⟨e, _⟩ | ⟨g, c, cur, e, hb, _⟩
        · rw [hao1] at e; cases e
        · rw [hao1] at e
          injection e with e
          injection e with e
          injection e with e _ _
          omega
      have HB := hide (Im.lt HI1.out)
      have n1 : g1 ≠ bm := by have := HB.out; omega
      have n2 : g2 ≠ bm := by have := HB.out; omega
      have n3 : g3 ≠ bm := by have := HB.out; omega
      have n4 : T4 ≠ bm := hTb
      obtain ⟨xa, hxa⟩ : ∃ y, (fst9 L q).ao = y := ⟨_, rfl⟩
      obtain ⟨xn, hxn⟩ : ∃ y, (fst9 L q).n = y := ⟨_, rfl⟩
      obtain ⟨xc, hxc⟩ : ∃ y, (fst9 L q).cap = y := ⟨_, rfl⟩
      obtain ⟨xs, hxb⟩ : ∃ y, (fst9 L q).bs = y := ⟨_, rfl⟩
      obtain ⟨cv, hcv⟩ : ∃ y, (fst9 L q).code = y := ⟨_, rfl⟩
      have hib := hin.inb
      rw [hxa, hxn, hxc, hxb] at hib
      have hdv : (fst9 L q).dv = .slice xa xn xc := by rw [← hxa, ← hxn, ← hxc]; rfl
      rw [hdv] at hcd2
      rw [hcv] at hcc2
      have kw2 : Kept [bm] w2 wr := (HK3.out.mono (by simp)).trans HK3r.out (fun j hj _ => hj)
      have kw : Kept [bm] w wr := (HK1.out.mono (by simp)).trans HKP.out (fun j hj _ => hj)
      have hxs : xs.length = xn ∧ xn ≤ xc ∧ xn ≤ 140737488355328 ∧ Sl wr xa xs ∧ (xa = none → xs = [] ∧ xc = 0) ∧ (xs ≠ [] → ∀ a, xa = some a → a.block ≠ bm) := by
        have hfar : xs ≠ [] → ∀ a, xa = some a → a.block ≠ bm := fun hne a ha => by
          obtain ⟨b, off, e, hb, _⟩ := hib.sl.open hne
          rw [ha] at e
          cases e
          have := HBM.out
          simp only
          omega
        exact ⟨hib.len, hib.le, by have := hib.max; have := hib.le; omega, hib.sl.kept kw (by simpa using hfar), hib.nil, hfar⟩
      have hrq : wr.rangeAt g1 (o1 + k * 32) (bys q) := fun jj u hu => kw2.cellOf (hrq2 jj u hu) (by simpa using n1)
      have cd := kw2.cellOf hcd2 (by simpa using n2)
      have cc := kw2.cellOf hcc2 (by simpa using n3)
      have HTKm := map9_snoc L ((ids9 L).take k) q
      rw [hxb, hcv, ← HTK0.out] at HTKm
      have hql := idl q hq
      have hlt1 : (k : Int) < (m : Int) := by omega
      subst hao1
      subst hao2
      subst hao3
      clear hib hin hcd2 hcc2 hB1 hB2 hB3 e1 e2 hxa hxn hxc hxb hcv hdv hfz hz kw2 kw hqe hkl hrq2 HB
      by_cases hc0 : cv = 0
      · subst hc0
        have HTK : Hid (map9 L ((ids9 L).take (k + 1)) = map9 L ((ids9 L).take k) ++ [(q, xs)]) := hide (by rw [HTKm, if_pos rfl])
        clear HTKm
        as_aux_lemma =>
        go_upto_region 7 with (fail)
        have h0m : Kept [] wr wr.drew := (Kept.refl [] wr).drew
        refine wp_region_held_drew (S := fun w' => Kept [bm] wr w') (by kernel_rfl) ((Kept.refl [bm] wr).drew) (fun h0 => ?_)
        generalize World.drew wr = v0 at h0 h0m ⊢
        refine wpAnyH_take (i := 0) (v := .map (some bm)) rfl (by kernel_rfl) (by kernel_rfl) (by kernel_rfl) (fun _ _ _ h => h) (Or.inl ⟨by rfl, fun w hSw => by go_simp⟩) h0 ?_
        try simp only [List.getElem_toArray, List.getElem_cons_zero, List.getElem_cons_succ, Act.put, List.setIfInBounds_toArray, List.set_cons_zero, List.set_cons_succ]
        refine wpAnyH_take (i := 1) (v := .pointer (some ⟨T4, 0, none⟩)) rfl (by kernel_rfl) (by kernel_rfl) (by kernel_rfl) (fun _ _ _ h => h) (Or.inl ⟨by rfl, fun w hSw => by go_simp⟩) h0 ?_
        try simp only [List.getElem_toArray, List.getElem_cons_zero, List.getElem_cons_succ, Act.put, List.setIfInBounds_toArray, List.set_cons_zero, List.set_cons_succ]
        refine wpAnyH_take (i := 2) (v := .slice (some ⟨g1, o1, none⟩) m cI) rfl (by kernel_rfl) (by kernel_rfl) (by kernel_rfl) (fun _ _ _ h => h) (Or.inl ⟨by rfl, fun w hSw => by have c0 := Kept.cellOf hSw c0 (by simpa using n4); go_simp⟩) h0 ?_
        try simp only [List.getElem_toArray, List.getElem_cons_zero, List.getElem_cons_succ, Act.put, List.setIfInBounds_toArray, List.set_cons_zero, List.set_cons_succ]
        refine wpAnyH_take (i := 3) (v := .int .i64 k) rfl (by kernel_rfl) (by kernel_rfl) (by kernel_rfl) (fun _ _ _ h => h) (Or.inl ⟨by rfl, fun w hSw => by go_simp⟩) h0 ?_
        try simp only [List.getElem_toArray, List.getElem_cons_zero, List.getElem_cons_succ, Act.put, List.setIfInBounds_toArray, List.set_cons_zero, List.set_cons_succ]
        refine wpAnyH_take (i := 4) (v := .pointer (some ⟨g1, o1 + k * 32, none⟩)) rfl (by kernel_rfl) (by kernel_rfl) (by kernel_rfl) (fun _ _ _ h => h) (Or.inl ⟨by rfl, fun w hSw => by go_simp⟩) h0 ?_
        try simp only [List.getElem_toArray, List.getElem_cons_zero, List.getElem_cons_succ, Act.put, List.setIfInBounds_toArray, List.set_cons_zero, List.set_cons_succ]
        refine wpAnyH_take (i := 5) (v := .agg (bys q).toArray) rfl (by kernel_rfl) (by kernel_rfl) (by kernel_rfl) (fun _ _ _ h => h) (yieldsIf_load_mid (by rfl) _ _ rfl g1 (o1 + k * 32) rfl (bys q) _ (fun W h => fun jj u hu => Kept.cellOf h (hrq jj u hu) (by simpa using n1)) Tryz.underlying36 rfl hql) h0 ?_
        try simp only [List.getElem_toArray, List.getElem_cons_zero, List.getElem_cons_succ, Act.put, List.setIfInBounds_toArray, List.set_cons_zero, List.set_cons_succ]
        refine wpAnyH_take (i := 7) (v := .pointer (some ⟨T4, 1, none⟩)) rfl (by kernel_rfl) (by kernel_rfl) (by kernel_rfl) (fun _ _ _ h => h) (Or.inl ⟨by rfl, fun w hSw => by go_simp⟩) h0 ?_
        try simp only [List.getElem_toArray, List.getElem_cons_zero, List.getElem_cons_succ, Act.put, List.setIfInBounds_toArray, List.set_cons_zero, List.set_cons_succ]
        refine wpAnyH_take (i := 8) (v := .slice (some ⟨g2, o2, none⟩) m cD) rfl (by kernel_rfl) (by kernel_rfl) (by kernel_rfl) (fun _ _ _ h => h) (Or.inl ⟨by rfl, fun w hSw => by have c0 := Kept.cellOf hSw c1 (by simpa using n4); go_simp⟩) h0 ?_
        try simp only [List.getElem_toArray, List.getElem_cons_zero, List.getElem_cons_succ, Act.put, List.setIfInBounds_toArray, List.set_cons_zero, List.set_cons_succ]
        refine wpAnyH_take (i := 9) (v := .int .i64 k) rfl (by kernel_rfl) (by kernel_rfl) (by kernel_rfl) (fun _ _ _ h => h) (Or.inl ⟨by rfl, fun w hSw => by go_simp⟩) h0 ?_
        try simp only [List.getElem_toArray, List.getElem_cons_zero, List.getElem_cons_succ, Act.put, List.setIfInBounds_toArray, List.set_cons_zero, List.set_cons_succ]
        refine wpAnyH_take (i := 10) (v := .pointer (some ⟨g2, o2 + k, none⟩)) rfl (by kernel_rfl) (by kernel_rfl) (by kernel_rfl) (fun _ _ _ h => h) (Or.inl ⟨by rfl, fun w hSw => by go_simp⟩) h0 ?_
        try simp only [List.getElem_toArray, List.getElem_cons_zero, List.getElem_cons_succ, Act.put, List.setIfInBounds_toArray, List.set_cons_zero, List.set_cons_succ]
        refine wpAnyH_take (i := 11) (v := .slice xa xn xc) rfl (by kernel_rfl) (by kernel_rfl) (by kernel_rfl) (fun _ _ _ h => h) (Or.inl ⟨by rfl, fun w hSw => by have c0 := Kept.cellOf hSw cd (by simpa using n2); go_simp⟩) h0 ?_
        try simp only [List.getElem_toArray, List.getElem_cons_zero, List.getElem_cons_succ, Act.put, List.setIfInBounds_toArray, List.set_cons_zero, List.set_cons_succ]
        obtain ⟨vv, w12, hrun, hown, hk12⟩ := run_freshB9 v0 xs xa xn xc hxs.1 (hxs.2.2.2.1.kept h0 (by simpa using hxs.2.2.2.2.2)) hxs.2.2.2.2.1 hxs.2.2.1
        obtain ⟨w13, hput, hk13, _, him⟩ := (HMo.out.im.kept (h0m.trans hk12 (by simp)) (by simp)).put (t := 26) Tryz.underlying26 q hq vv
        refine wpAnyH_ready (rs := [6]) (by kernel_rfl) (by simp) (AllReadyH.cons (i := 6) rfl (fun K' hK => ?_) AllReadyH.nil)
        rw [if_pos (by rfl)]
        go_simp
        refine hK.out _ _ (h0.alloc _) (fun h1 => ?_)
        clear hK K'
        try simp only [List.getElem_toArray, List.getElem_cons_zero, List.getElem_cons_succ, Act.put, List.setIfInBounds_toArray, List.set_cons_zero, List.set_cons_succ]
        refine wpAnyH_ready (rs := [12]) (by kernel_rfl) (by simp) (AllReadyH.cons (i := 12) rfl (fun K' hK => ?_) AllReadyH.nil)
        rw [if_pos (by rfl)]
        refine wp_append_run (.tmp 28) (.tmp 33) 33 33 rfl (.slice (some ⟨v0.heap.size, 0, none⟩) 0 0) (.slice xa xn xc) rfl rfl _ _ hrun ?_
        refine hK.out _ _ (h0.trans hk12 (by simp)) (fun h2 => ?_)
        clear hK K' hrun
        try simp only [List.getElem_toArray, List.getElem_cons_zero, List.getElem_cons_succ, Act.put, List.setIfInBounds_toArray, List.set_cons_zero, List.set_cons_succ]
        refine wpAnyH_ready (rs := [13]) (by kernel_rfl) (by simp) (AllReadyH.cons (i := 13) rfl (fun K' hK => ?_) AllReadyH.nil)
        rw [if_pos (by rfl)]
        refine wp_mapUpdate_run9 _ _ _ 26 rfl _ _ _ rfl rfl rfl hput ?_
        refine hK.out _ _ (h2.trans hk13 (fun j hj _ => hj)) (fun h3 => ?_)
        clear hK K' hput
        try simp only [List.getElem_toArray, List.getElem_cons_zero, List.getElem_cons_succ, Act.put, List.setIfInBounds_toArray, List.set_cons_zero, List.set_cons_succ]
        refine wpAnyH_done (by kernel_rfl) ?_ _
        have HF : Hid (∃ V', Mw9 w w13 bm (map9 L ((ids9 L).take (k + 1))) V' ∧ Kept [bm] w1 w13 ∧ Kept [bm] w3 w13) := hide (by
          rw [HTK.out]
          have k2 := h0m.trans hk12 (by simp)
          exact ⟨_, mw_put HMo.out k2 hk13 hown HNQ.out him (by rw [hxs.1]; exact hxs.2.2.1) (Nat.le_trans (Nat.le_trans HK1.out.size HKP.out.size) h0m.size), (HKP.out.trans k2 (by simp)).trans hk13 (fun j hj _ => hj), (HK3r.out.trans k2 (by simp)).trans hk13 (fun j hj _ => hj)⟩)
        clear h0 h0m h1 h2 h3 hk12 hk13 him hown hxs c0 c1 c2 cd hrq
        go_wp2
        go_roundw
        case rel => exact ⟨k + 1, by omega, by go_num, HF⟩
        case measure => simp [intOf]; omega
      · have hcv0 : (cv == 0) = false := by simpa using hc0
        have HTK : Hid (map9 L ((ids9 L).take (k + 1)) = map9 L ((ids9 L).take k)) := hide (by rw [HTKm, if_neg hc0])
        clear HTKm hc0 hxs hrq cd
        as_aux_lemma =>
        have HF : Hid (∃ V', Mw9 w wr bm (map9 L ((ids9 L).take (k + 1))) V' ∧ Kept [bm] w1 wr ∧ Kept [bm] w3 wr) := hide ⟨_, by rw [HTK.out]; exact HMo.out, HKP.out, HK3r.out⟩
        go_wp2
        go_roundw
        case rel => exact ⟨k + 1, by omega, by go_num, HF⟩
        case measure => simp [intOf]; omega
    · obtain rfl : k = m := by omega
      have hlt1 : ¬ (k : Int) < (k : Int) := by omega
      have HF : Hid (∃ b V, Value.map (some bm) = .map (some b) ∧ Mw9 w wr b (map9 L (ids9 L)) V ∧ Kept [] w wr) := hide ⟨bm, V, rfl, by
        have h1 := HMo.out
        rwa [List.take_of_length_le (by have := HM.out; omega)] at h1, (HK1.out.trans HKP.out (fun j hj hlt => by simp at hj; have := HBM.out; omega))⟩
      clear HMo HKP
      go_wp2
      go_ret
      obtain ⟨b, V, e, h1, h2⟩ := HF.out
      exact ⟨bm, rfl, ⟨V, by cases e; exact h1⟩, h2⟩
end

section
open Go.RowKit Go.Lib Go.Sort
set_option linter.unusedVariables false
set_option linter.unusedSimpArgs false

section
variable {f f' : List UInt8 → An} {roots : List (List UInt8)}
/-- A source that says the same of all that is needed. -/
theorem fld_eq {q : List UInt8} (h : f' q = f q) : fldsF f' q = fldsF f q := by unfold fldsF; rw [h]
theorem ids_eq {q : List UInt8} (h : f' q = f q) : idsF f' q = idsF f q := by unfold idsF; rw [h]
theorem bad_eq {q : List UInt8} (h : f' q = f q) : badF f' q ↔ badF f q := by unfold badF; rw [h]
theorem lev_on (h : ∀ q, nd f roots q → f' q = f q) : ∀ (k : Nat), k ≤ 6 → ∀ q, lev f' roots k q ↔ lev f roots k q
  | 0, _, q => Iff.rfl
  | k + 1, hk, q => by
    constructor
    · rintro ⟨p, h1, h2⟩
      have h3 := (lev_on h k (by omega) p).1 h1
      exact ⟨p, h3, by rw [← fld_eq (h p (nd_lev (by omega) h3))]; exact h2⟩
    · rintro ⟨p, h1, h2⟩
      exact ⟨p, (lev_on h k (by omega) p).2 h1, by rw [fld_eq (h p (nd_lev (by omega) h1))]; exact h2⟩
theorem opn_on (h : ∀ q, nd f roots q → f' q = f q) (q : List UInt8) : opn f' roots q ↔ opn f roots q :=
  ⟨fun ⟨j, hj, h1⟩ => ⟨j, hj, (lev_on h j (by omega) q).1 h1⟩, fun ⟨j, hj, h1⟩ => ⟨j, hj, (lev_on h j (by omega) q).2 h1⟩⟩
theorem nd_on (h : ∀ q, nd f roots q → f' q = f q) (q : List UInt8) : nd f' roots q ↔ nd f roots q := by
  unfold nd
  refine or_congr Iff.rfl ⟨?_, ?_⟩
  · rintro ⟨p, h1, h2⟩
    have h3 := (opn_on h p).1 h1
    exact ⟨p, h3, by rw [← ids_eq (h p (nd_opn h3))]; exact h2⟩
  · rintro ⟨p, h1, h2⟩
    exact ⟨p, (opn_on h p).2 h1, by rw [ids_eq (h p (nd_opn h1))]; exact h2⟩
theorem whl_on (h : ∀ q, nd f roots q → f' q = f q) (hw : Whl9 f roots) : Whl9 f' roots := by
  refine ⟨fun q hq => ?_, fun q hq => hw.flat q ((lev_on h 6 (by omega) q).1 hq), fun q hq => ?_⟩
  · have h1 := (opn_on h q).1 hq
    rw [bad_eq (h q (nd_opn h1))]; exact hw.good q h1
  · have h1 := (nd_on h q).1 hq
    rw [h q h1]; exact hw.there q h1

/-- One of what is needed lacks. -/
theorem lev_less {q0 : List UInt8} (h : ∀ q, q ≠ q0 → f' q = f q) (hl : f' q0 = .lack) : ∀ (k : Nat) (q : List UInt8), lev f' roots k q → lev f roots k q
  | 0, q, h1 => h1
  | k + 1, q, ⟨p, h1, h2⟩ => by
    by_cases e : p = q0
    · rw [e] at h2
      unfold fldsF at h2
      rw [hl] at h2
      simp at h2
    · exact ⟨p, lev_less h hl k p h1, by rw [← fld_eq (h p e)]; exact h2⟩
theorem lev_or {q0 : List UInt8} (h : ∀ q, q ≠ q0 → f' q = f q) : ∀ (k : Nat) (q : List UInt8), k ≤ 6 → lev f roots k q → lev f' roots k q ∨ nd f' roots q0
  | 0, q, _, h1 => .inl h1
  | k + 1, q, hk, ⟨p, h1, h2⟩ => by
    rcases lev_or h k p (by omega) h1 with h3 | h3
    · by_cases e : p = q0
      · rw [e] at h3
        exact .inr (nd_lev (by omega) h3)
      · exact .inl ⟨p, h3, by rw [fld_eq (h p e)]; exact h2⟩
    · exact .inr h3
theorem nd_less {q0 : List UInt8} (h : ∀ q, q ≠ q0 → f' q = f q) (hl : f' q0 = .lack) {q : List UInt8} (hq : nd f' roots q) : nd f roots q := by
  rcases hq with hq | ⟨p, ⟨j, hj, h1⟩, h2⟩
  · exact .inl hq
  · by_cases e : p = q0
    · rw [e] at h2
      unfold idsF at h2
      rw [hl] at h2
      simp at h2
    · exact .inr ⟨p, ⟨j, hj, lev_less h hl j p h1⟩, by rw [← ids_eq (h p e)]; exact h2⟩
theorem nd_still {q0 : List UInt8} (h : ∀ q, q ≠ q0 → f' q = f q) (hq : nd f roots q0) : nd f' roots q0 := by
  rcases hq with hq | ⟨p, ⟨j, hj, h1⟩, h2⟩
  · exact .inl hq
  · rcases lev_or h j p (by omega) h1 with h3 | h3
    · by_cases e : p = q0
      · rw [e] at h3
        exact nd_lev (by omega) h3
      · exact .inr ⟨p, ⟨j, hj, h3⟩, by rw [ids_eq (h p e)]; exact h2⟩
    · exact h3
/-- Then just that lacks. -/
theorem less_tells {q0 : List UInt8} {r : Option (List UInt8) × Ws × List (List UInt8)} (h : ∀ q, q ≠ q0 → f' q = f q) (hl : f' q0 = .lack) (hw : Whl9 f roots) (hq : nd f roots q0) (ht : Tls f' roots r) :
    picks r.2.1.B r.2.2 r.2.1.L = some (102, q0) ∧ canon r.2.1.L = [q0] := by
  have hB : r.2.1.B = [] := nil_iff.2 (fun q hq2 => by
    obtain ⟨⟨j, hj, h1⟩, h2⟩ := (ht.B q).1 hq2
    by_cases e : q = q0
    · rw [e] at h2; unfold badF at h2; rw [hl] at h2; exact h2
    · exact hw.good q ⟨j, hj, lev_less h hl j q h1⟩ ((bad_eq (h q e)).1 h2))
  have hR : r.2.2 = [] := nil_iff.2 (fun q hq2 => hw.flat q (lev_less h hl 6 q ((ht.R q).1 hq2)))
  have hL : ∀ q, q ∈ r.2.1.L ↔ q = q0 := fun q => by
    rw [ht.L q]
    constructor
    · rintro ⟨h1, h2⟩
      by_cases e : q = q0
      · exact e
      · rw [h q e] at h2
        exact absurd h2 (hw.there q (nd_less h hl h1))
    · rintro rfl
      exact ⟨nd_still h hq, hl⟩
  have hc : canon r.2.1.L = [q0] := up_uniq (up_canon _) (by simp [Up]) (fun q => by rw [mem_canon, hL q]; simp)
  refine ⟨?_, hc⟩
  unfold picks
  have hn : r.2.1.L ≠ [] := fun e => by have := (hL q0).2 rfl; rw [e] at this; simp at this
  rw [if_neg (by simp [hB]), if_neg (by simp [hR]), if_pos hn, hc]
  rfl

/-- Nothing is there. -/
theorem none_tells {r : Option (List UInt8) × Ws × List (List UInt8)} (h : ∀ q, f q = .lack) (ht : Tls f roots r) :
    canon r.2.1.L = canon roots ∧ r.2.1.B = [] ∧ r.2.2 = [] ∧ canon r.2.1.N = canon roots := by
  have hfl : ∀ q, fldsF f q = [] := fun q => by unfold fldsF; rw [h q]
  have hid : ∀ q, idsF f q = [] := fun q => by unfold idsF; rw [h q]
  have hbd : ∀ q, ¬ badF f q := fun q => by unfold badF; rw [h q]; exact id
  have hn : ∀ q, nd f roots q ↔ q ∈ roots := fun q => ⟨fun h => h.elim id (fun ⟨p, _, h2⟩ => by rw [hid] at h2; simp at h2), .inl⟩
  refine ⟨canon_cong (fun q => ?_), nil_iff.2 (fun q hq => hbd q ((ht.B q).1 hq).2), nil_iff.2 (fun q hq => ?_), canon_cong (fun q => by rw [ht.N q, hn q])⟩
  · rw [ht.L q, hn q]
    exact ⟨fun h => h.1, fun hq => ⟨hq, h q⟩⟩
  · obtain ⟨p, _, h2⟩ := (ht.R q).1 hq
    rw [hfl] at h2
    simp at h2

/-- Where folders form a chain. -/
theorem lev_chain {g : Nat → List UInt8} {i : List UInt8} (h0 : g 0 = i) {n : Nat} (hs : ∀ k, k < n → fldsF f (g k) = [g (k + 1)]) : ∀ (k : Nat), k ≤ n → ∀ q, lev f [i] k q ↔ q = g k
  | 0, _, q => by show q ∈ [i] ↔ _; rw [h0]; simp
  | k + 1, hk, q => by
    constructor
    · rintro ⟨p, h1, h2⟩
      rw [(lev_chain h0 hs k (by omega) p).1 h1, hs k (by omega)] at h2
      simpa using h2
    · rintro rfl
      exact ⟨g k, (lev_chain h0 hs k (by omega) _).2 rfl, by rw [hs k (by omega)]; simp⟩
theorem lev_end {g : Nat → List UInt8} {i : List UInt8} (h0 : g 0 = i) {n : Nat} (hs : ∀ k, k < n → fldsF f (g k) = [g (k + 1)]) (he : fldsF f (g n) = []) : ∀ (k : Nat) (q : List UInt8), ¬ lev f [i] (n + 1 + k) q
  | 0, q, ⟨p, h1, h2⟩ => by
    rw [(lev_chain h0 hs n (Nat.le_refl n) p).1 h1, he] at h2
    simp at h2
  | k + 1, q, ⟨p, h1, h2⟩ => lev_end h0 hs he k p h1
end
end

end Go.Proofs.YtngaimahhgmciabGreatDoor
