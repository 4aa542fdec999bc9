/-
  reach.follow of a nil source (K9t's text, written by tools/q9n.py), Need and Lacks of it.
-/
import Derived.Test.YtngaimahhgmciaaGreatDoorNpp
namespace Go.Proofs.YtngaimahhgmciaaGreatDoor
open Go.RowKit Go.Lib Go.Sort
set_option linter.unusedVariables false
set_option linter.unusedSimpArgs false

set_option maxHeartbeats 3200000 in
set_option maxRecDepth 100000 in
theorem follow_nil9 {fn : Nat} {rv : Value} {f : List UInt8 → An} {Er : List UInt8 → World → Value → Prop} {G : List (List UInt8) → (Nat → Prop) → World → Prop} (S : Src 33 (.map none) fn rv f Er G) (op : List UInt8) {ord : List (List UInt8)} {o : Nat → Prop} {w : World} (hG : G ord o w) (gl : GlE w) (tabs : Tabs w) (offg : ∀ b, b < 4 → ¬ o b)
    (ao : Option Addr) (n c : Nat) (L : List Rz) (hl : L.length = n) (hL : Rss w ao L) (hn : n ≤ 4611686018427387904) (hfar : L ≠ [] → ∀ a, ao = some a → a.block < w.heap.size)
    (U : List (List UInt8)) (hU : ∀ q ∈ L.map (·.root), q ∈ U) (hf : ∀ i xs E, f i = .data xs → Tn.parse xs = some E → ∀ e ∈ E, e.id ∈ U) (hUl : U.length ≤ 4398046511104) :
    Calls Tryz.prog 37 #[.string ⟨op.toArray⟩, .nilIface, .slice ao n c] w fun e w' => Fol w o op 33 (.map none) Er G (walkW f ord (L.map (·.root))) e w' := by
  have hmk : ∀ W : World, (Instr.makeMap 94 none).run Tryz.prog W = .ok (.map (some W.heap.size)) (W.alloc (.map #[] 0)) := fun _ => rfl
  have hmf : ∀ W : World, (Instr.makeMap 95 none).run Tryz.prog W = .ok (.map (some W.heap.size)) (W.alloc (.map #[] 0)) := fun _ => rfl
  have hro : ∀ W : World, Kept [] w W → Calls Tryz.prog 51 #[.slice ao n c] W fun e w' => ∃ b', e = .returned (.map (some b')) ∧ Is w' b' (insA [] (L.map (·.root))) ∧ Kept [] W w' ∧ W.heap.size ≤ b' := fun W hk => roots_ok ao n c L W hl (hL.kept hk (by simp)) hn (fun h a ha => Nat.lt_of_lt_of_le (hfar h a ha) hk.size)
  have HRO := hide hro
  have HB := hide (And.intro hG (And.intro gl (And.intro tabs offg)))
  have HU := hide (And.intro hU (And.intro hf hUl))
  clear hro hG gl tabs offg hl hL hfar hU hf hUl
  obtain ⟨w1, hw1⟩ : ∃ w1, w1 = w.alloc (.map #[] 0) := ⟨_, rfl⟩
  have hk1 : Kept [] w w1 := by rw [hw1]; exact (Kept.refl [] w).alloc _
  have hr1 := HRO.out w1 hk1
  rw [hw1] at hr1
  go_enter Tryz.func37, Tryz.ntmps37
  go_upto_region 3 with (fail)
  go_upto_region 4 with (first
    | (go_at_call 51; refine hr1.mono ?_; rintro e w2 ⟨bN, rfl, hsN, hk2, hbN⟩; have HN2 := hide (And.intro hsN (And.intro hk2 hbN)); clear hr1 hsN hk2 hbN))
  have hbg := Wz.begin4 S op HB.out.1 HB.out.2.1 HB.out.2.2.1 HB.out.2.2.2 HN2.out.1 HN2.out.2.1 HN2.out.2.2
  have HZ0 := hide hbg.2
  have hr2 := HRO.out _ hbg.1
  show Code.wp _ _ _ _ (begW w2 (wfd0 op 33 (.map none) w.heap.size bN w2.heap.size))
  clear hbg hmk hmf hk1 hw1 HN2
  obtain ⟨x, hx⟩ : ∃ x, wfd0 op 33 (.map none) w.heap.size bN w2.heap.size = x := ⟨_, rfl⟩
  have HX : Hid (x.op = op ∧ x.deep = .map none) := hide (by rw [← hx]; exact ⟨rfl, rfl⟩)
  rw [hx] at HZ0 hr2 ⊢
  generalize begW w2 x = w3 at HZ0 hr2 ⊢
  generalize w2.heap.size + 1 + 1 + 1 = P at HZ0 ⊢
  clear hx
  go_upto_region 5 with (first
    | (go_at_call 51; refine hr2.mono ?_; rintro e w4 ⟨br, rfl, hsR, hk4, hbr⟩; have HF4 := hide (Fr.next S HZ0.out hk4 hbr hsR); clear hr2 hsR hk4 hbr HZ0))
  obtain ⟨s0, hs0⟩ : ∃ s0, s0 = (⟨ord, [], insA [] (L.map (·.root)), [], [], fun _ => []⟩ : Ws) := ⟨_, rfl⟩
  have HS0 := hide hs0
  rw [← hs0] at HF4
  clear hs0 HRO HB
  have HI0 : Hid (InU U s0) := hide (by
    rw [HS0.out]
    refine ⟨fun q hq => ?_, fun i q hq => by cases hq⟩
    have hq : q ∈ insA [] (L.map (·.root)) := hq
    rcases mem_insA.1 hq with h | h
    · cases h
    · exact HU.out.1 q h)
  have HK0 : Hid (∀ q ∈ insA [] (L.map (·.root)), q ∈ U) := hide (by
    intro q hq
    rcases mem_insA.1 hq with h | h
    · cases h
    · exact HU.out.1 q h)
  go_wp2
  go_loopw [9, 26] (fun z y wr => ∃ (k b : Nat) (K : List (List UInt8)) (s' : Ws), k ≤ 6 ∧ y = .int .i64 k ∧ z = .map (some b) ∧ Hid (Fr w o 33 (.map none) G P x s' b K wr ∧ InU U s' ∧ (∀ q ∈ K, q ∈ U) ∧ Ws.rounds f 6 s0 (canon (L.map (·.root))) = Ws.rounds f (6 - k) s' (canon K))) (fun z y wr => 6 - (intOf y).toNat)
  case atStart => exact ⟨0, br, _, s0, by omega, rfl, rfl, hide ⟨HF4.out, HI0.out, HK0.out, by rw [canon_insA, Nat.sub_zero]⟩⟩
  case round =>
    clear HF4 HI0 HK0
    obtain ⟨k, b, K, s', hk, rfl, rfl, HI⟩ := hrel
    have HFR := hide HI.out.1
    obtain ⟨wb, ub, hz, hsb, hub⟩ := HI.out.1
    have HZ := hide hz
    have HSB := hide (And.intro hsb hub)
    clear hz hsb hub
    by_cases hlt : k < 6
    · have hKl : K.length ≤ 4398046511104 := Nat.le_trans (nodup_le (Im.nodup HFR.out.is) HI.out.2.2.1) HU.out.2.2
      obtain ⟨m, hm⟩ : ∃ m, 6 - k = m + 1 := ⟨5 - k, by omega⟩
      have HR := hide HI.out.2.2.2
      rw [hm] at HR
      obtain ⟨⟨r, s5⟩, hT⟩ : ∃ r, Ws.trees f s' (canon K) = r := ⟨_, rfl⟩
      have HT := hide hT
      cases r with
      | some i =>
        have hat := atrees_some S HZ.out b K HFR.out.is hKl hT
        clear hT hKl
        go_wp2_with (go_at_call 52; refine hat.mono ?_; rintro e w5 ⟨eb, ev, rfl, hfa, her, hz5⟩; have H5 := hide (And.intro hfa (And.intro her hz5)); clear hat hfa her hz5; unfold faultV)
        go_ret2
        have e1 := HR.out
        rw [rounds_some HT.out, HS0.out] at e1
        rw [walkW_some e1]
        refine .inl ⟨i, _, eb, ev, P, x, wb, ub, rfl, rfl, ?_, H5.out.2.1, H5.out.2.2⟩
        rw [← HX.out.1]
        exact H5.out.1
      | none =>
        have hat := atrees_none S HZ.out b K HFR.out.is hKl hT
        clear hT hKl
        go_upto_region 10 with (go_at_call 52; refine hat.mono ?_; rintro e w5 ⟨rfl, hz5⟩; have H5 := hide hz5; clear hat hz5)
        have hfr5 : Fr w o 33 (.map none) G P x s5 b K w5 := ⟨wb, ub, H5.out, HSB.out.1, HSB.out.2⟩
        have hnx := znext_ok H5.out b K hfr5.is
        clear hfr5
        go_wp2_with (go_at_call 53; refine hnx.mono ?_; rintro e w6 ⟨b', K', rfl, g1, g2, g3, g4⟩; have H6 := hide (And.intro (Fr.next S H5.out g3 g4 g1) g2); clear hnx g1 g2 g3 g4)
        go_roundw
        case rel =>
          have hin : InU U s5 := by have := inU_trees HU.out.2.1 (canon K) HI.out.2.1; rw [HT.out] at this; exact this
          refine ⟨k + 1, b', K', s5, by omega, by go_num, rfl, hide ⟨H6.out.1, hin, fun q hq => ?_, ?_⟩⟩
          · obtain ⟨i, _, h2⟩ := (H6.out.2 q).1 hq
            exact hin.2 i q h2
          · have e9 : 6 - (k + 1) = m := by omega
            rw [HR.out, rounds_none HT.out, canon_next H6.out.2, e9]
        case measure => simp [intOf]; omega
    · have HE : Hid (Ws.rounds f 6 s0 (canon (L.map (·.root))) = (none, s', canon K)) := hide (by
        have e6 : 6 - k = 0 := by omega
        have e7 := HI.out.2.2.2
        rw [e6] at e7
        exact e7)
      have hNl : s'.N.length ≤ 4398046511104 := Nat.le_trans (nodup_le HZ.out.needs HI.out.2.1.1) HU.out.2.2
      have c6 := HZ.out.cell6
      have f6 : wr.frozen? ⟨P, 6, none⟩ = false := by obtain ⟨F, V, o9, h1, _⟩ := HZ.out; exact frozen_of_row _ _ _ _ _ h1.wk.row
      rw [HX.out.2] at c6
      obtain ⟨wb6, ub6, hz6, hsb6, hub6⟩ := Fr.deepen S HFR.out
      have HB6 := hide (And.intro hsb6 hub6)
      clear hsb6 hub6 HSB HZ HFR HI
      obtain ⟨⟨r, s5⟩, hT⟩ : ∃ r, Ws.others f s' (canon s'.N) = r := ⟨_, rfl⟩
      have HT := hide hT
      cases r with
      | some i =>
        have hao := aothers_some S hz6 hNl hT
        clear hT hNl hz6
        go_wp2_with (go_at_call 54; refine hao.mono ?_; rintro e w5 ⟨eb, ev, rfl, hfa, her, hz5⟩; have H5 := hide (And.intro hfa (And.intro her hz5)); clear hao hfa her hz5; unfold faultV)
        go_ret2
        have e1 := HE.out
        rw [HS0.out] at e1
        rw [walkW_none e1, HT.out]
        refine .inl ⟨i, _, eb, ev, P, _, wb6, ub6, rfl, rfl, ?_, H5.out.2.1, H5.out.2.2⟩
        rw [← HX.out.1]
        exact H5.out.1
      | none =>
        have hao := aothers_none S hz6 hNl hT
        clear hT hNl hz6
        go_wp2_with (go_at_call 54; refine hao.mono ?_; rintro e w5 ⟨rfl, hz5⟩; have H5 := hide hz5; clear hao hz5)
        go_ret2
        have e1 := HE.out
        rw [HS0.out] at e1
        rw [walkW_none e1, HT.out]
        exact .inr ⟨P, { x with deep := .map (some b) }, b, K, rfl, rfl, HX.out.1, rfl, rfl, wb6, ub6, H5.out, HB6.out.1, HB6.out.2⟩


theorem std_nil9 : Std (.map none) [] (fun _ => False) (fun _ => True) where
  isM := ⟨none, rfl⟩
  keep _ _ := trivial
  at_ _ := .inl ⟨rfl, rfl⟩
  off _ _ h := h
section
variable {w : World}
theorem need_nil9 (gl : GlE w) (tabs : Tabs w) (ao : Option Addr) (n c : Nat) (L : List Rz) (hl : L.length = n) (hL : Rss w ao L) (hn : n ≤ 4398046511104) (hfar : L ≠ [] → ∀ a, ao = some a → a.block < w.heap.size) :
    Calls Tryz.prog 19 #[.nilIface, .slice ao n c] w fun e w' => NdM (fun _ => False) (fun _ => True) ([] : List (List UInt8 × List UInt8)) (L.map (·.root)) w e w' := by
  have H : Std (.map none) [] (fun _ => False) (fun _ => True) := std_nil9
  have S := src9 H
  have hG : G9 (fun _ => False) (fun _ => True) [] (fun _ => False) w := ⟨rfl, trivial, fun _ h => h.elim⟩
  have hU1 : ∀ q ∈ L.map (·.root), q ∈ L.map (·.root) ++ idsM ([] : List (List UInt8 × List UInt8)) := fun q hq => List.mem_append_left _ hq
  have hU2 : ∀ i xs E, mpf ([] : List (List UInt8 × List UInt8)) i = .data xs → Tn.parse xs = some E → ∀ e ∈ E, e.id ∈ L.map (·.root) ++ idsM ([] : List (List UInt8 × List UInt8)) := fun i xs E h1 h2 e he => List.mem_append_right _ (idsM_in i xs E h1 h2 e he)
  have hUl : (L.map (·.root) ++ idsM ([] : List (List UInt8 × List UInt8))).length ≤ 4398046511104 := by
    have := idsM_len (M := ([] : List (List UInt8 × List UInt8)))
    rw [List.length_append, List.length_map]
    simp only [List.length_nil] at this
    omega
  have hfo := follow_nil9 S opNeed hG gl tabs H.off ao n c L hl hL (by omega) hfar _ hU1 hU2 hUl
  have hin := walkW_in hU2 [] hU1
  have hne := need_of (f := mpf ([] : List (List UInt8 × List UInt8))) (fn := 0) (rv := .map none) hfo _ hin.1 hin.2.1 hin.2.2 hUl
  refine hne.mono ?_
  intro e w' h
  have ht := walk_sem (mpf_nofail ([] : List (List UInt8 × List UInt8))) [] (L.map (·.root))
  rcases h with ⟨i, eb, ev, P, x, wb, ub, h1, _⟩ | ⟨cd, i, eb, w1, P, x, wb, ub, h1, h2, rfl, h4, h5, h8, h6, h7⟩ | ⟨v, w1, P, x, wb, ub, h1, h2, rfl, h4, h5, h6, h7⟩
  · rw [ht.ok] at h1; cases h1
  · obtain ⟨k1, k2, k3, k4⟩ := wz_parts H h7 h6
    exact ⟨k1, k2, k3, k4, .inr ⟨cd, i, eb, h2, rfl, h4, h5, h8⟩⟩
  · obtain ⟨k1, k2, k3, k4⟩ := wz_parts H h7 h6
    exact ⟨k1, k2, k3, k4, .inl ⟨v, h2, rfl, h4.base9 h5⟩⟩
theorem lacks_nil9 (gl : GlE w) (tabs : Tabs w) (ao : Option Addr) (n c : Nat) (L : List Rz) (hl : L.length = n) (hL : Rss w ao L) (hn : n ≤ 4398046511104) (hfar : L ≠ [] → ∀ a, ao = some a → a.block < w.heap.size) :
    Calls Tryz.prog 20 #[.nilIface, .slice ao n c] w fun e w' => LkM (fun _ => False) (fun _ => True) ([] : List (List UInt8 × List UInt8)) (L.map (·.root)) w e w' := by
  have H : Std (.map none) [] (fun _ => False) (fun _ => True) := std_nil9
  have S := src9 H
  have hG : G9 (fun _ => False) (fun _ => True) [] (fun _ => False) w := ⟨rfl, trivial, fun _ h => h.elim⟩
  have hU1 : ∀ q ∈ L.map (·.root), q ∈ L.map (·.root) ++ idsM ([] : List (List UInt8 × List UInt8)) := fun q hq => List.mem_append_left _ hq
  have hU2 : ∀ i xs E, mpf ([] : List (List UInt8 × List UInt8)) i = .data xs → Tn.parse xs = some E → ∀ e ∈ E, e.id ∈ L.map (·.root) ++ idsM ([] : List (List UInt8 × List UInt8)) := fun i xs E h1 h2 e he => List.mem_append_right _ (idsM_in i xs E h1 h2 e he)
  have hUl : (L.map (·.root) ++ idsM ([] : List (List UInt8 × List UInt8))).length ≤ 4398046511104 := by
    have := idsM_len (M := ([] : List (List UInt8 × List UInt8)))
    rw [List.length_append, List.length_map]
    simp only [List.length_nil] at this
    omega
  have hfo := follow_nil9 S opLacks hG gl tabs H.off ao n c L hl hL (by omega) hfar _ hU1 hU2 hUl
  have hin := walkW_in hU2 [] hU1
  have hne := lacks_of (f := mpf ([] : List (List UInt8 × List UInt8))) (fn := 0) (rv := .map none) hfo _ hin.2.1.1 hUl
  refine hne.mono ?_
  intro e w' h
  have ht := walk_sem (mpf_nofail ([] : List (List UInt8 × List UInt8))) [] (L.map (·.root))
  rcases h with ⟨i, eb, ev, P, x, wb, ub, h1, _⟩ | ⟨v, w1, P, x, wb, ub, h1, rfl, h4, h5, h6, h7⟩
  · rw [ht.ok] at h1; cases h1
  · obtain ⟨k1, k2, k3, k4⟩ := wz_parts H h7 h6
    exact ⟨k1, k2, k3, k4, v, rfl, h4.base9 h5⟩
end
end Go.Proofs.YtngaimahhgmciaaGreatDoor
