import Derived.Test.YtngaimahhgmciabGreatDoorK9kv
namespace Go.Proofs.YtngaimahhgmciabGreatDoor
section
open Go.RowKit Go.Lib Go.Sort
set_option linter.unusedVariables false
set_option linter.unusedSimpArgs false

section
variable {w0 : World} {o0 : Nat → Prop} {wb : World} {ub : Nat → Prop} {T : TypeId} {sv : Value} {fn : Nat} {rv : Value} {f : List UInt8 → An} {Er : List UInt8 → World → Value → Prop} {G : List (List UInt8) → (Nat → Prop) → World → Prop} {w w1 : World} {P : Nat} {x : Wfd} {s : Ws}

/-- Seen from a later world: what the walk and its source have, lay ahead of w. -/
theorem Wz.rebase (S : Src T sv fn rv f Er G) (h : Wz w0 o0 wb ub T sv G P x s w) (hk : Kept [] w w1) :
    ∃ ft : Nat → Prop, (∀ b, ft b → b < w.heap.size) ∧ Wz w0 o0 w1 ft T sv G P x s w1 ∧ ∀ s' w', Wz w0 o0 w1 ft T sv G P x s' w' → Wz w0 o0 wb ub T sv G P x s' w' ∧ Kp ft w1 w' := by
  obtain ⟨F, V, o, h1, h2⟩ := h
  refine ⟨fun b => o b ∨ b ∈ x.maps ∨ ∃ j, j < F.length ∧ (V.getD j unitv).ownBlock = some b, fun b hb => ?_, ?_, fun s' w' h' => ?_⟩
  · rcases hb with hb | hb | ⟨j, hj, hb⟩
    · exact S.lim h1.src b hb
    · obtain ⟨es, c, e⟩ := h1.wk.map_at hb; exact (Array.getElem?_eq_some_iff.1 e).1
    · obtain ⟨cs, hc⟩ := own_row (h1.wk.rows j hj) hb; exact (Array.getElem?_eq_some_iff.1 hc).1
  · have h3 := h1.kept S hk
    exact ⟨F, V, o, ⟨h3.wk, h3.src, h3.isrc, h3.offP, h3.offm, h3.offr, h3.offg, h3.o0r, h3.kp, ⟨rfl, rfl, rfl, Nat.le_refl _, fun _ _ _ => rfl⟩, fun b hb => .inl hb, h3.gl, h3.tabs, h3.top⟩, h2⟩
  · obtain ⟨F', V', o', g1, g2⟩ := h'
    have h3 := h1.kept S hk
    refine ⟨⟨F', V', o', ⟨g1.wk, g1.src, g1.isrc, g1.offP, g1.offm, g1.offr, g1.offg, g1.o0r, g1.kp, h3.kb.trans g1.kb (fun i hi hlt => ?_), fun b hb => ?_, g1.gl, g1.tabs, g1.top⟩, g2⟩, g1.kb⟩
    · rcases h1.ubr i hi with h4 | h4
      · exact h4
      · omega
    · rcases g1.ubr b hb with h4 | h4
      · exact h1.ubr b h4
      · exact .inr (Nat.le_trans h3.kb.size h4)
end

theorem OwnI.kp {ft : Nat → Prop} {w w' : World} {base : Nat} {v : Value} {C : List (List UInt8)} (h : OwnI w base v C) (hk : Kp ft w w') (hn : ∀ g, v.ownBlock = some g → ¬ ft g) : OwnI w' base v C := by
  refine ⟨⟨h.1.1, ?_⟩, h.2⟩
  rcases h.1.2 with h0 | ⟨g, cap, cur, hv, hb, hg, rest⟩
  · exact .inl h0
  · refine .inr ⟨g, cap, cur, hv, hb, ?_, rest⟩
    rw [hk.block g (Array.getElem?_eq_some_iff.1 hg).1 (hn g (by rw [hv]; rfl))]
    exact hg

theorem zwas_ok {w0 : World} {o0 : Nat → Prop} {wb : World} {ub : Nat → Prop} {T : TypeId} {sv : Value} {G : List (List UInt8) → (Nat → Prop) → World → Prop} {w : World} {P : Nat} {x : Wfd} {s : Ws} (h : Wz w0 o0 wb ub T sv G P x s w) (i : List UInt8) (hi : i.length = 32) :
    Calls Tryz.prog 45 #[.pointer (some ⟨P, 0, none⟩), .agg (bys i).toArray] w fun e w' => e = .returned (.bool (decide (i ∈ s.A))) ∧ Kept [] w w' := by
  obtain ⟨F, V, o, h1, _⟩ := h
  exact wasAsked_ok h1.wk i hi
theorem trees_snoc {f : List UInt8 → An} {s s' : Ws} {R : List (List UInt8)} {k : Nat} (hk : k < R.length) (h : Ws.trees f s (R.take k) = (none, s')) : Ws.trees f s (R.take (k + 1)) = Ws.trees f s' [R.getD k []] := by
  have e : R.getD k [] = R[k] := by simp [List.getElem?_eq_getElem hk]
  rw [List.take_succ_eq_append_getElem hk, e]
  exact trees_app f _ s s' _ h
theorem trees_stop {f : List UInt8 → An} {s s' s'' : Ws} {R : List (List UInt8)} {k : Nat} {i : List UInt8} (hk : k < R.length) (h : Ws.trees f s (R.take k) = (none, s')) (hi : R.getD k [] = i) (h2 : Ws.trees f s' [i] = (some i, s'')) : Ws.trees f s R = (some i, s'') := by
  have e : R.getD k [] = R[k] := by simp [List.getElem?_eq_getElem hk]
  have e2 : R = R.take k ++ (R[k] :: R.drop (k + 1)) := by rw [← List.drop_eq_getElem_cons hk, List.take_append_drop]
  rw [e2, trees_app f _ s s' _ h, ← e, hi]
  simp only [Ws.trees] at h2 ⊢
  by_cases hc : (s'.tree f i).1 = true
  · rw [if_pos hc] at h2; cases h2
  · rw [if_neg hc] at h2 ⊢; exact h2
theorem one_true {f : List UInt8 → An} {s s' : Ws} {i : List UInt8} (h : s.tree f i = (true, s')) : Ws.trees f s [i] = (none, s') := by simp only [Ws.trees, h]; rfl
theorem one_false {f : List UInt8 → An} {s s' : Ws} {i : List UInt8} (h : s.tree f i = (false, s')) : Ws.trees f s [i] = (some i, s') := by simp only [Ws.trees, h]; rfl

/-- What comes of asking for ids, one behind the other. -/
def ATr (w0 : World) (o0 : Nat → Prop) (wb : World) (ub : Nat → Prop) (T : TypeId) (sv : Value) (Er : List UInt8 → World → Value → Prop) (G : List (List UInt8) → (Nat → Prop) → World → Prop) (P : Nat) (x : Wfd) (r : Option (List UInt8) × Ws) (e : Ending) (w' : World) : Prop :=
  (r.1 = none ∧ e = .returned .nilIface ∧ Wz w0 o0 wb ub T sv G P x r.2 w') ∨ ∃ i eb ev, r.1 = some i ∧ e = .returned (faultV eb) ∧ FltAt w' eb x.op i ev ∧ Er i w' ev ∧ Wz w0 o0 wb ub T sv G P x r.2 w'

set_option maxHeartbeats 3200000 in
set_option maxRecDepth 100000 in
theorem atrees_ok {w0 : World} {o0 : Nat → Prop} {wb : World} {ub : Nat → Prop} {T : TypeId} {sv : Value} {fn : Nat} {rv : Value} {f : List UInt8 → An} {Er : List UInt8 → World → Value → Prop} {G : List (List UInt8) → (Nat → Prop) → World → Prop} {w : World} {P : Nat} {x : Wfd} {s : Ws} (S : Src T sv fn rv f Er G) (h : Wz w0 o0 wb ub T sv G P x s w) (br : Nat) (K : List (List UInt8)) (hs : Is w br K) (hK : K.length ≤ 4398046511104) (U : List (List UInt8)) (hUl : U.length ≤ 4398046511104) (hor : OrU U s) (hKU : ∀ q ∈ K, q ∈ U) :
    Calls Tryz.prog 32 #[.pointer (some ⟨P, 0, none⟩), .map (some br)] w fun e w' => ∃ R, R.Perm K ∧ Up R ∧ ATr w0 o0 wb ub T sv Er G P x (Ws.trees f s R) e w' := by
  have hri := rising_ok br K w hs hK
  have HH := hide h
  have HK := hide hK
  have HOR := hide (And.intro hUl (And.intro hor hKU))
  have hz := Tryz.zeroId
  clear hs h hK hUl hor hKU
  go_enter Tryz.func32, Tryz.ntmps32
  go_wp2_with (go_at_call 25; refine hri.mono ?_; rintro e w1 ⟨v, R, rfl, hov, hpm, hup, hk1⟩; obtain ⟨ao, c, hvv, hcc⟩ := own_shape hov.1; subst hvv; have HOV := hide hov; have HPM := hide (And.intro hpm hup); have HK1 := hide hk1; clear hri hov hpm hup hk1 hcc)
  obtain ⟨ft, hft, hz1, hback⟩ := HH.out.rebase S HK1.out
  have HFT := hide hft
  have HZ1 := hide hz1
  have HBK := hide hback
  have HLB : Hid (R.length ≤ 4398046511104) := hide (by rw [HPM.out.1.length_eq]; exact HK.out)
  clear hft hz1 hback HH
  obtain ⟨n, hn⟩ : ∃ n, R.length = n := ⟨_, rfl⟩
  have HN := hide hn
  rw [hn] at HOV HLB ⊢
  have hn2 := HLB.out
  clear hn
  go_loopw [13] (fun y wr => ∃ (k : Nat) (s' : Ws), k ≤ n ∧ y = .int .i64 k ∧ Hid (Ws.trees f s (R.take k) = (none, s') ∧ Wz w0 o0 w1 ft T sv G P x s' wr)) (fun y wr => n - (intOf y).toNat)
  case atStart => exact ⟨0, s, Nat.zero_le _, rfl, hide ⟨rfl, HZ1.out⟩⟩
  case round =>
    clear HZ1
    obtain ⟨k, s', hk, rfl, HI⟩ := hrel
    by_cases hlt : k < n
    · have hkl : k < R.length := by rw [HN.out]; exact hlt
      have hrow := (HOV.out.kp (HBK.out _ _ HI.out.2).2 (fun g hg hf => by
        have h1 := HFT.out g hf
        rcases HOV.out.1.2 with ⟨e, _⟩ | ⟨q, cap, cur, e, hb, _⟩
        · rw [e] at hg; cases hg
        · rw [e] at hg
          simp only [Value.ownBlock, Option.some.injEq] at hg
          omega)).ids.1
      obtain ⟨g, off, hao, hrg⟩ := hrow.1 k hkl
      subst hao
      have hi : (R.getD k []).length = 32 := hrow.2 _ (getD_memI hkl)
      have HTS := hide (trees_snoc hkl HI.out.1)
      have HST : Hid (∀ i s'', R.getD k [] = i → Ws.trees f s' [i] = (some i, s'') → Ws.trees f s R = (some i, s'')) := hide (fun i s'' e h2 => trees_stop hkl HI.out.1 e h2)
      have HZ := hide HI.out.2
      have hol : s'.ord.length ≤ 4398046511104 := by
        have h1 := trees_orU (f := f) (R.take k) HOR.out.2.1 (fun q hq => HOR.out.2.2 q (HPM.out.1.mem_iff.1 (List.mem_of_mem_take hq)))
        rw [HI.out.1] at h1
        exact h1.len HOR.out.1
      have HOL := hide hol
      clear hol
      clear hrow HI hkl
      obtain ⟨i, hie⟩ : ∃ i, R.getD k [] = i := ⟨_, rfl⟩
      have HIE := hide hie
      rw [hie] at hrg hi HTS
      clear hie
      have hil := idl i hi
      have hia := ida i hi
      have hiz := idz i hi
      have hal := idall i
      have hnz := new_atK wr (.cells zeroI 36)
      go_upto_region 4 with (first
        | refine wpList_load_mid rfl 36 (.tmp 15) rfl g (off + k * 32) rfl (bys i) _ hrg Tryz.underlying36 rfl hil ?_
        | refine wpList_store_rowTo rfl 36 (.tmp 6) (.tmp 16) rfl rfl wr.heap.size (bys i).toArray rfl rfl 36 zeroI hnz hia hiz hal ?_)
      have hW : (wr.alloc (.cells zeroI 36)).setRow wr.heap.size (bys i).toArray = withId wr i := rfl
      rw [hW]
      have HZW := hide (HZ.out.kept S (withId_kept wr i))
      have hrW := row_rangeK (withId_row wr i)
      have HGW := hide (withId_row wr i)
      have HGF : Hid (¬ ft wr.heap.size) := hide (fun hf => by have := HFT.out _ hf; have := HK1.out.size; have := (HBK.out _ _ HZ.out).2.size; omega)
      have HWK := hide (withId_kept wr i)
      clear hrg hia hiz hal hnz hW
      generalize withId wr i = W at *
      obtain ⟨G9, hG9⟩ : ∃ G9, wr.heap.size = G9 := ⟨_, rfl⟩
      have HGE := hide hG9
      rw [hG9] at hrW HGW HGF ⊢
      clear hG9
      have hwa := zwas_ok HZW.out i hi
      by_cases hA : i ∈ s'.A
      · have HT : Hid (Ws.trees f s (R.take (k + 1)) = (none, s')) := hide (by rw [HTS.out]; exact one_true (by unfold Ws.tree; rw [if_pos hA]))
        rw [decide_eq_true hA] at hwa
        clear hA
        go_wp2_with (first
          | refine wpList_load_mid rfl 36 (.tmp 6) rfl G9 0 rfl (bys i) _ hrW Tryz.underlying36 rfl hil ?_
          | (go_at_call 45; refine hwa.mono ?_; rintro e w3 ⟨rfl, hk3⟩; have HZ3 := hide (HZW.out.kept S hk3); clear hwa hk3))
        go_roundw
        case rel => exact ⟨k + 1, s', by omega, by go_num, hide ⟨HT.out, HZ3.out⟩⟩
        case measure => simp [intOf]; omega
      · have HA := hide hA
        rw [decide_eq_false hA] at hwa
        clear hA
        go_upto_region 5 with (first
          | refine wpList_load_mid rfl 36 (.tmp 6) rfl G9 0 rfl (bys i) _ hrW Tryz.underlying36 rfl hil ?_
          | (go_at_call 45; refine hwa.mono ?_; rintro e w3 ⟨rfl, hk3⟩; have HZ3 := hide (HZW.out.kept S hk3); have HW3 := hide (HWK.out.trans hk3 (by simp)); have HG3 : Hid (w3.heap[G9]? = some (.cells (bys i).toArray 36 (0, 0))) := hide (by rw [hk3.block G9 (Array.getElem?_eq_some_iff.1 HGW.out).1 (by simp)]; exact HGW.out); clear hwa hk3))
        have hr3 := row_rangeK HG3.out
        clear HZW HGW hrW
        cases hf : f i with
        | lack =>
          have has := zask_lack S HZ3.out i hi hf HOL.out
          have HT : Hid (Ws.trees f s (R.take (k + 1)) = (none, { s'.asked i with L := insI s'.L i })) := hide (by rw [HTS.out]; exact one_true (by unfold Ws.tree; rw [if_neg HA.out, hf]))
          clear hf
          go_wp2_with (first
            | refine wpList_load_mid rfl 36 (.tmp 6) rfl G9 0 rfl (bys i) _ hr3 Tryz.underlying36 rfl hil ?_
            | (go_at_call 46; refine has.mono ?_; rintro e w4 ⟨rfl, hz4⟩; have HZ4 := hide hz4; clear has hz4))
          go_roundw
          case rel => exact ⟨k + 1, _, by omega, by go_num, hide ⟨HT.out, HZ4.out⟩⟩
          case measure => simp [intOf]; omega
        | fail =>
          have has := zask_fail S HZ3.out i hi hf HOL.out
          have HT : Hid (Ws.trees f s R = (some i, s'.asked i)) := hide (HST.out i _ HIE.out (one_false (by unfold Ws.tree; rw [if_neg HA.out, hf])))
          clear hf
          go_wp2_with (first
            | refine wpList_load_mid rfl 36 (.tmp 6) rfl G9 0 rfl (bys i) _ hr3 Tryz.underlying36 rfl hil ?_
            | (go_at_call 46; refine has.mono ?_; rintro e w4 ⟨eb, ev, rfl, hfl, her, hz4⟩; have HZ4 := hide (And.intro hfl (And.intro her hz4)); clear has hfl her hz4; unfold faultV))
          go_ret
          refine ⟨R, HPM.out.1, HPM.out.2, .inr ⟨i, eb, ev, by rw [HT.out], rfl, HZ4.out.1, HZ4.out.2.1, ?_⟩⟩
          rw [HT.out]
          exact (HBK.out _ _ HZ4.out.2.2).1
        | data xs =>
          obtain ⟨ft3, hft3, hz3', hback3⟩ := HZ.out.rebase S HW3.out
          have HF3 : Hid (¬ ft3 G9) := hide (fun hf3 => by have := hft3 _ hf3; have := HGE.out; omega)
          have HB3 := hide hback3
          have has := zask_data S hz3' i hi xs hf HOL.out
          clear hft3 hback3 hz3'
          have H00 : Hid (∀ q, q ∉ s'.A → s'.fl q = []) := hide (by obtain ⟨F, V, o, _, _, h3, _⟩ := HZ3.out; exact h3)
          have HT : Hid (Ws.trees f s (R.take (k + 1)) = (none, (s'.asked i).readE i (Tn.parse xs))) := hide (by rw [HTS.out]; exact one_true (by unfold Ws.tree; rw [if_neg HA.out, hf]))
          clear hf
          go_upto_region 6 with (first
            | refine wpList_load_mid rfl 36 (.tmp 6) rfl G9 0 rfl (bys i) _ hr3 Tryz.underlying36 rfl hil ?_
            | (go_at_call 46; refine has.mono ?_; rintro e w4 ⟨da, dn, dc, rfl, hd, hz4⟩; have HD := hide hd; have HZ4 := hide hz4; clear has hd hz4))
          have hr4 : w4.rangeAt G9 0 (bys i) := fun j v hv => (HB3.out _ _ HZ4.out).2.cell (hr3 j v hv) HF3.out
          have hrd := zread_ok S s' i hi HA.out HZ4.out H00.out da dn dc xs HD.out.1 HD.out.2.1 HD.out.2.2.1 HD.out.2.2.2
          go_wp2_with (first
            | refine wpList_load_mid rfl 36 (.tmp 6) rfl G9 0 rfl (bys i) _ hr4 Tryz.underlying36 rfl hil ?_
            | (go_at_call 47; refine hrd.mono ?_; rintro e w5 ⟨rfl, hz5⟩; have HZ5 := hide hz5; clear hrd hz5))
          go_roundw
          case rel => exact ⟨k + 1, _, by omega, by go_num, hide ⟨HT.out, (HB3.out _ _ HZ5.out).1⟩⟩
          case measure => simp [intOf]; omega
    · go_wp2
      go_ret
      have e1 : R.take k = R := List.take_of_length_le (by have := HN.out; omega)
      have h9 := HI.out
      rw [e1] at h9
      refine ⟨R, HPM.out.1, HPM.out.2, .inl ⟨by rw [h9.1], rfl, ?_⟩⟩
      rw [h9.1]
      exact (HBK.out _ _ h9.2).1
end

section
open Go.RowKit Go.Lib Go.Sort
set_option linter.unusedVariables false
set_option linter.unusedSimpArgs false

/-- An id is asked for, whatever it is. -/
def Ws.other (f : List UInt8 → An) (s : Ws) (i : List UInt8) : Bool × Ws :=
  if i ∈ s.A then (true, s) else match f i with
    | .fail => (false, s.asked i)
    | .lack => (true, { s.asked i with L := insI s.L i })
    | .data _ => (true, s.asked i)
def Ws.others (f : List UInt8 → An) : Ws → List (List UInt8) → Option (List UInt8) × Ws
  | s, [] => (none, s)
  | s, i :: r => if (s.other f i).1 = true then Ws.others f (s.other f i).2 r else (some i, (s.other f i).2)
theorem others_app (f : List UInt8 → An) : ∀ (l : List (List UInt8)) (s s' : Ws) (r : List (List UInt8)), Ws.others f s l = (none, s') → Ws.others f s (l ++ r) = Ws.others f s' r
  | [], s, s', r, h => by simp only [Ws.others, Prod.mk.injEq, true_and] at h; rw [h]; rfl
  | i :: l, s, s', r, h => by
    simp only [List.cons_append, Ws.others] at h ⊢
    by_cases hc : (s.other f i).1 = true
    · rw [if_pos hc] at h ⊢
      exact others_app f l _ s' r h
    · rw [if_neg hc] at h
      cases h

theorem oone_true_orU {f : List UInt8 → An} {U : List (List UInt8)} {s : Ws} {i : List UInt8} (h : OrU U s) (hi : i ∈ U) : OrU U (s.other f i).2 := by
  unfold Ws.other
  by_cases hA : i ∈ s.A
  · rw [if_pos hA]; exact h
  · rw [if_neg hA]
    have k := h.asked hi hA
    cases f i with
    | fail => exact k
    | lack => exact k
    | data xs => first
      | exact k
      | (show OrU U ((s.asked i).readE i (Tn.parse xs)); cases Tn.parse xs <;> exact k)
theorem others_orU {f : List UInt8 → An} {U : List (List UInt8)} : ∀ (R : List (List UInt8)) {s : Ws}, OrU U s → (∀ q ∈ R, q ∈ U) → OrU U (Ws.others f s R).2
  | [], s, h, _ => h
  | i :: r, s, h, hR => by
    have h1 : OrU U (s.other f i).2 := oone_true_orU h (hR i (by simp))
    show OrU U (if (s.other f i).1 = true then Ws.others f (s.other f i).2 r else (some i, (s.other f i).2)).2
    split
    · exact others_orU r h1 (fun q hq => hR q (by simp [hq]))
    · exact h1

theorem others_snoc {f : List UInt8 → An} {s s' : Ws} {R : List (List UInt8)} {k : Nat} (hk : k < R.length) (h : Ws.others f s (R.take k) = (none, s')) : Ws.others f s (R.take (k + 1)) = Ws.others f s' [R.getD k []] := by
  have e : R.getD k [] = R[k] := by simp [List.getElem?_eq_getElem hk]
  rw [List.take_succ_eq_append_getElem hk, e]
  exact others_app f _ s s' _ h
theorem others_stop {f : List UInt8 → An} {s s' s'' : Ws} {R : List (List UInt8)} {k : Nat} {i : List UInt8} (hk : k < R.length) (h : Ws.others f s (R.take k) = (none, s')) (hi : R.getD k [] = i) (h2 : Ws.others f s' [i] = (some i, s'')) : Ws.others f s R = (some i, s'') := by
  have e : R.getD k [] = R[k] := by simp [List.getElem?_eq_getElem hk]
  have e2 : R = R.take k ++ (R[k] :: R.drop (k + 1)) := by rw [← List.drop_eq_getElem_cons hk, List.take_append_drop]
  rw [e2, others_app f _ s s' _ h, ← e, hi]
  simp only [Ws.others] at h2 ⊢
  by_cases hc : (s'.other f i).1 = true
  · rw [if_pos hc] at h2; cases h2
  · rw [if_neg hc] at h2 ⊢; exact h2
theorem oone_true {f : List UInt8 → An} {s s' : Ws} {i : List UInt8} (h : s.other f i = (true, s')) : Ws.others f s [i] = (none, s') := by simp only [Ws.others, h]; rfl
theorem oone_false {f : List UInt8 → An} {s s' : Ws} {i : List UInt8} (h : s.other f i = (false, s')) : Ws.others f s [i] = (some i, s') := by simp only [Ws.others, h]; rfl

set_option maxHeartbeats 3200000 in
set_option maxRecDepth 100000 in
theorem aothers_ok {w0 : World} {o0 : Nat → Prop} {wb : World} {ub : Nat → Prop} {T : TypeId} {sv : Value} {fn : Nat} {rv : Value} {f : List UInt8 → An} {Er : List UInt8 → World → Value → Prop} {G : List (List UInt8) → (Nat → Prop) → World → Prop} {w : World} {P : Nat} {x : Wfd} {s : Ws} (S : Src T sv fn rv f Er G) (h : Wz w0 o0 wb ub T sv G P x s w) (hK : s.N.length ≤ 4398046511104) (U : List (List UInt8)) (hUl : U.length ≤ 4398046511104) (hor : OrU U s) (hKU : ∀ q ∈ s.N, q ∈ U) :
    Calls Tryz.prog 34 #[.pointer (some ⟨P, 0, none⟩)] w fun e w' => ∃ R, R.Perm s.N ∧ Up R ∧ ATr w0 o0 wb ub T sv Er G P x (Ws.others f s R) e w' := by
  have hwk : ∃ F V o, Wx w0 o0 wb ub T sv G w P x s.ord s.A s.N s.L s.B F V o := by obtain ⟨F, V, o, h1, _⟩ := h; exact ⟨F, V, o, h1⟩
  obtain ⟨F0, V0, o9, hwx⟩ := hwk
  have c3 : w.cell? ⟨P, 3, none⟩ = some (.map (some x.bN)) := hwx.wk.cell 3
  have hri := rising_ok x.bN s.N w hwx.wk.n hK
  have HH := hide h
  have HK := hide hK
  have HOR := hide (And.intro hUl (And.intro hor hKU))
  have hz := Tryz.zeroId
  clear hwx h hK hUl hor hKU
  go_enter Tryz.func34, Tryz.ntmps34
  go_wp2_with (go_at_call 25; refine hri.mono ?_; rintro e w1 ⟨v, R, rfl, hov, hpm, hup, hk1⟩; obtain ⟨ao, c, hvv, hcc⟩ := own_shape hov.1; subst hvv; have HOV := hide hov; have HPM := hide (And.intro hpm hup); have HK1 := hide hk1; clear hri hov hpm hup hk1 hcc c3)
  obtain ⟨ft, hft, hz1, hback⟩ := HH.out.rebase S HK1.out
  have HFT := hide hft
  have HZ1 := hide hz1
  have HBK := hide hback
  have HLB : Hid (R.length ≤ 4398046511104) := hide (by rw [HPM.out.1.length_eq]; exact HK.out)
  clear hft hz1 hback HH
  obtain ⟨n, hn⟩ : ∃ n, R.length = n := ⟨_, rfl⟩
  have HN := hide hn
  rw [hn] at HOV HLB ⊢
  have hn2 := HLB.out
  clear hn
  go_loopw [14] (fun y wr => ∃ (k : Nat) (s' : Ws), k ≤ n ∧ y = .int .i64 k ∧ Hid (Ws.others f s (R.take k) = (none, s') ∧ Wz w0 o0 w1 ft T sv G P x s' wr)) (fun y wr => n - (intOf y).toNat)
  case atStart => exact ⟨0, s, Nat.zero_le _, rfl, hide ⟨rfl, HZ1.out⟩⟩
  case round =>
    clear HZ1
    obtain ⟨k, s', hk, rfl, HI⟩ := hrel
    by_cases hlt : k < n
    · have hkl : k < R.length := by rw [HN.out]; exact hlt
      have hrow := (HOV.out.kp (HBK.out _ _ HI.out.2).2 (fun g hg hf => by
        have h1 := HFT.out g hf
        rcases HOV.out.1.2 with ⟨e, _⟩ | ⟨q, cap, cur, e, hb, _⟩
        · rw [e] at hg; cases hg
        · rw [e] at hg
          simp only [Value.ownBlock, Option.some.injEq] at hg
          omega)).ids.1
      obtain ⟨g, off, hao, hrg⟩ := hrow.1 k hkl
      subst hao
      have hi : (R.getD k []).length = 32 := hrow.2 _ (getD_memI hkl)
      have HTS := hide (others_snoc hkl HI.out.1)
      have HST : Hid (∀ i s'', R.getD k [] = i → Ws.others f s' [i] = (some i, s'') → Ws.others f s R = (some i, s'')) := hide (fun i s'' e h2 => others_stop hkl HI.out.1 e h2)
      have HZ := hide HI.out.2
      have hol : s'.ord.length ≤ 4398046511104 := by
        have h1 := others_orU (f := f) (R.take k) HOR.out.2.1 (fun q hq => HOR.out.2.2 q (HPM.out.1.mem_iff.1 (List.mem_of_mem_take hq)))
        rw [HI.out.1] at h1
        exact h1.len HOR.out.1
      have HOL := hide hol
      clear hol
      clear hrow HI hkl
      obtain ⟨i, hie⟩ : ∃ i, R.getD k [] = i := ⟨_, rfl⟩
      have HIE := hide hie
      rw [hie] at hrg hi HTS
      clear hie
      have hil := idl i hi
      have hia := ida i hi
      have hiz := idz i hi
      have hal := idall i
      have hnz := new_atK wr (.cells zeroI 36)
      go_upto_region 4 with (first
        | refine wpList_load_mid rfl 36 (.tmp 16) rfl g (off + k * 32) rfl (bys i) _ hrg Tryz.underlying36 rfl hil ?_
        | refine wpList_store_rowTo rfl 36 (.tmp 4) (.tmp 17) rfl rfl wr.heap.size (bys i).toArray rfl rfl 36 zeroI hnz hia hiz hal ?_)
      have hW : (wr.alloc (.cells zeroI 36)).setRow wr.heap.size (bys i).toArray = withId wr i := rfl
      rw [hW]
      have HZW := hide (HZ.out.kept S (withId_kept wr i))
      have hrW := row_rangeK (withId_row wr i)
      have HGW := hide (withId_row wr i)
      have HGF : Hid (¬ ft wr.heap.size) := hide (fun hf => by have := HFT.out _ hf; have := HK1.out.size; have := (HBK.out _ _ HZ.out).2.size; omega)
      have HWK := hide (withId_kept wr i)
      clear hrg hia hiz hal hnz hW
      generalize withId wr i = W at *
      obtain ⟨G9, hG9⟩ : ∃ G9, wr.heap.size = G9 := ⟨_, rfl⟩
      have HGE := hide hG9
      rw [hG9] at hrW HGW HGF ⊢
      clear hG9
      have hwa := zwas_ok HZW.out i hi
      by_cases hA : i ∈ s'.A
      · have HT : Hid (Ws.others f s (R.take (k + 1)) = (none, s')) := hide (by rw [HTS.out]; exact oone_true (by unfold Ws.other; rw [if_pos hA]))
        rw [decide_eq_true hA] at hwa
        clear hA
        go_wp2_with (first
          | refine wpList_load_mid rfl 36 (.tmp 4) rfl G9 0 rfl (bys i) _ hrW Tryz.underlying36 rfl hil ?_
          | (go_at_call 45; refine hwa.mono ?_; rintro e w3 ⟨rfl, hk3⟩; have HZ3 := hide (HZW.out.kept S hk3); clear hwa hk3))
        go_roundw
        case rel => exact ⟨k + 1, s', by omega, by go_num, hide ⟨HT.out, HZ3.out⟩⟩
        case measure => simp [intOf]; omega
      · have HA := hide hA
        rw [decide_eq_false hA] at hwa
        clear hA
        go_upto_region 5 with (first
          | refine wpList_load_mid rfl 36 (.tmp 4) rfl G9 0 rfl (bys i) _ hrW Tryz.underlying36 rfl hil ?_
          | (go_at_call 45; refine hwa.mono ?_; rintro e w3 ⟨rfl, hk3⟩; have HZ3 := hide (HZW.out.kept S hk3); have HW3 := hide (HWK.out.trans hk3 (by simp)); have HG3 : Hid (w3.heap[G9]? = some (.cells (bys i).toArray 36 (0, 0))) := hide (by rw [hk3.block G9 (Array.getElem?_eq_some_iff.1 HGW.out).1 (by simp)]; exact HGW.out); clear hwa hk3))
        have hr3 := row_rangeK HG3.out
        clear HZW HGW hrW
        cases hf : f i with
        | lack =>
          have has := zask_lack S HZ3.out i hi hf HOL.out
          have HT : Hid (Ws.others f s (R.take (k + 1)) = (none, { s'.asked i with L := insI s'.L i })) := hide (by rw [HTS.out]; exact oone_true (by unfold Ws.other; rw [if_neg HA.out, hf]))
          clear hf
          go_wp2_with (first
            | refine wpList_load_mid rfl 36 (.tmp 4) rfl G9 0 rfl (bys i) _ hr3 Tryz.underlying36 rfl hil ?_
            | (go_at_call 46; refine has.mono ?_; rintro e w4 ⟨rfl, hz4⟩; have HZ4 := hide hz4; clear has hz4))
          go_roundw
          case rel => exact ⟨k + 1, _, by omega, by go_num, hide ⟨HT.out, HZ4.out⟩⟩
          case measure => simp [intOf]; omega
        | fail =>
          have has := zask_fail S HZ3.out i hi hf HOL.out
          have HT : Hid (Ws.others f s R = (some i, s'.asked i)) := hide (HST.out i _ HIE.out (oone_false (by unfold Ws.other; rw [if_neg HA.out, hf])))
          clear hf
          go_wp2_with (first
            | refine wpList_load_mid rfl 36 (.tmp 4) rfl G9 0 rfl (bys i) _ hr3 Tryz.underlying36 rfl hil ?_
            | (go_at_call 46; refine has.mono ?_; rintro e w4 ⟨eb, ev, rfl, hfl, her, hz4⟩; have HZ4 := hide (And.intro hfl (And.intro her hz4)); clear has hfl her hz4; unfold faultV))
          go_ret
          refine ⟨R, HPM.out.1, HPM.out.2, .inr ⟨i, eb, ev, by rw [HT.out], rfl, HZ4.out.1, HZ4.out.2.1, ?_⟩⟩
          rw [HT.out]
          exact (HBK.out _ _ HZ4.out.2.2).1
        | data xs =>
          have has := zask_data S HZ3.out i hi xs hf HOL.out
          have HT : Hid (Ws.others f s (R.take (k + 1)) = (none, s'.asked i)) := hide (by rw [HTS.out]; exact oone_true (by unfold Ws.other; rw [if_neg HA.out, hf]))
          clear hf
          go_wp2_with (first
            | refine wpList_load_mid rfl 36 (.tmp 4) rfl G9 0 rfl (bys i) _ hr3 Tryz.underlying36 rfl hil ?_
            | (go_at_call 46; refine has.mono ?_; rintro e w4 ⟨da, dn, dc, rfl, hd, hz4⟩; have HZ4 := hide hz4; clear has hd hz4))
          go_roundw
          case rel => exact ⟨k + 1, _, by omega, by go_num, hide ⟨HT.out, HZ4.out⟩⟩
          case measure => simp [intOf]; omega
    · go_wp2
      go_ret
      have e1 : R.take k = R := List.take_of_length_le (by have := HN.out; omega)
      have h9 := HI.out
      rw [e1] at h9
      refine ⟨R, HPM.out.1, HPM.out.2, .inl ⟨by rw [h9.1], rfl, ?_⟩⟩
      rw [h9.1]
      exact (HBK.out _ _ h9.2).1
end

section
open Go.RowKit Go.Lib Go.Sort
set_option linter.unusedVariables false
set_option linter.unusedSimpArgs false

/-- A rising list with an id more. -/
def wth : List (List UInt8) → List UInt8 → List (List UInt8)
  | [], i => [i]
  | a :: r, i => if compareBytes a i = 0 then a :: r else if compareBytes a i < 0 then a :: wth r i else i :: a :: r
theorem mem_wth {i q : List UInt8} : ∀ {R : List (List UInt8)}, q ∈ wth R i ↔ q ∈ R ∨ q = i
  | [] => by simp [wth]
  | a :: r => by
    unfold wth
    by_cases h0 : compareBytes a i = 0
    · have := cmp_zero h0
      subst this
      rw [if_pos h0]
      constructor
      · exact .inl
      · rintro (h | rfl)
        · exact h
        · simp
    · rw [if_neg h0]
      by_cases h1 : compareBytes a i < 0
      · rw [if_pos h1, List.mem_cons, mem_wth, List.mem_cons, or_assoc]
      · rw [if_neg h1]
        simp only [List.mem_cons]
        constructor
        · rintro (rfl | h)
          · exact .inr rfl
          · exact .inl h
        · rintro (h | rfl)
          · exact .inr h
          · exact .inl rfl
theorem up_wth {i : List UInt8} : ∀ {R : List (List UInt8)}, Up R → Up (wth R i)
  | [], _ => by simp [wth, Up]
  | a :: r, h => by
    unfold Up at h
    rw [List.pairwise_cons] at h
    unfold wth
    by_cases h0 : compareBytes a i = 0
    · rw [if_pos h0]
      exact List.pairwise_cons.2 h
    · rw [if_neg h0]
      by_cases h1 : compareBytes a i < 0
      · rw [if_pos h1]
        refine List.pairwise_cons.2 ⟨fun q hq => ?_, up_wth h.2⟩
        rcases mem_wth.1 hq with h2 | rfl
        · exact h.1 q h2
        · exact h1
      · rw [if_neg h1]
        have h2 : compareBytes i a < 0 := by have := cmp_swap a i; omega
        refine List.pairwise_cons.2 ⟨fun q hq => ?_, List.pairwise_cons.2 h⟩
        rcases List.mem_cons.1 hq with rfl | hq
        · exact h2
        · exact cmp_trans h2 (h.1 q hq)
/-- Rising, each once. -/
def canon (l : List (List UInt8)) : List (List UInt8) := l.foldl wth []
theorem foldl_wth : ∀ (l R : List (List UInt8)), Up R → Up (l.foldl wth R) ∧ ∀ q, q ∈ l.foldl wth R ↔ q ∈ R ∨ q ∈ l
  | [], R, h => ⟨h, fun q => by simp⟩
  | i :: l, R, h => by
    obtain ⟨h1, h2⟩ := foldl_wth l (wth R i) (up_wth h)
    refine ⟨h1, fun q => ?_⟩
    rw [List.foldl_cons, h2 q, mem_wth, List.mem_cons, or_assoc]
theorem up_canon (l : List (List UInt8)) : Up (canon l) := (foldl_wth l [] (by simp [Up])).1
theorem mem_canon {l : List (List UInt8)} {q : List UInt8} : q ∈ canon l ↔ q ∈ l := by
  have := (foldl_wth l [] (by simp [Up])).2 q
  simpa [canon] using this
theorem up_uniq : ∀ {R R' : List (List UInt8)}, Up R → Up R' → (∀ q, q ∈ R ↔ q ∈ R') → R = R'
  | [], [], _, _, _ => rfl
  | [], b :: r', _, _, h => by have := (h b).2 (by simp); simp at this
  | a :: r, [], _, _, h => by have := (h a).1 (by simp); simp at this
  | a :: r, b :: r', h1, h2, h => by
    have h1' := List.pairwise_cons.1 h1
    have h2' := List.pairwise_cons.1 h2
    have irr : ∀ q : List UInt8, ¬ compareBytes q q < 0 := fun q => by rw [cmp_self]; omega
    have hab : a = b := by
      rcases List.mem_cons.1 ((h a).1 (by simp)) with e | ha
      · exact e
      · rcases List.mem_cons.1 ((h b).2 (by simp)) with e | hb
        · exact e.symm
        · have x1 := h2'.1 a ha
          have x2 := h1'.1 b hb
          exact absurd (cmp_trans x1 x2) (irr b)
    subst hab
    congr 1
    refine up_uniq h1'.2 h2'.2 (fun q => ?_)
    constructor
    · intro hq
      rcases List.mem_cons.1 ((h q).1 (by simp [hq])) with e | h3
      · subst e; exact absurd (h1'.1 q hq) (irr q)
      · exact h3
    · intro hq
      rcases List.mem_cons.1 ((h q).2 (by simp [hq])) with e | h3
      · subst e; exact absurd (h2'.1 q hq) (irr q)
      · exact h3
theorem canon_of {R K l : List (List UInt8)} (hp : R.Perm K) (hu : Up R) (hm : ∀ q, q ∈ K ↔ q ∈ l) : R = canon l := up_uniq hu (up_canon l) (fun q => by rw [hp.mem_iff, hm q, mem_canon])

/-- n rounds from the rising list R on: the id at which it ended, what was found out, the round that comes next. -/
def Ws.rounds (f : List UInt8 → An) : Nat → Ws → List (List UInt8) → Option (List UInt8) × Ws × List (List UInt8)
  | 0, s, R => (none, s, R)
  | n + 1, s, R => match Ws.trees f s R with
    | (some i, s') => (some i, s', R)
    | (none, s') => Ws.rounds f n s' (canon (R.flatMap s'.fl))
/-- The whole walk. -/
def walkW (f : List UInt8 → An) (ord0 : List (List UInt8)) (roots : List (List UInt8)) : Option (List UInt8) × Ws × List (List UInt8) :=
  match Ws.rounds f 6 ⟨ord0, [], insA [] roots, [], [], fun _ => []⟩ (canon roots) with
    | (some i, s, R) => (some i, s, R)
    | (none, s, R) => ((Ws.others f s (canon s.N)).1, (Ws.others f s (canon s.N)).2, R)
end

end Go.Proofs.YtngaimahhgmciabGreatDoor
