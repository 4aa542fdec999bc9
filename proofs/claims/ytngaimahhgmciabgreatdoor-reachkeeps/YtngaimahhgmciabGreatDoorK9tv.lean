import Derived.Test.YtngaimahhgmciabGreatDoorQ9vv
import Derived.Test.YtngaimahhgmciabGreatDoorK9nv
namespace Go.Proofs.YtngaimahhgmciabGreatDoor
section
open Go.RowKit Go.Lib Go.Sort
set_option linter.unusedVariables false
set_option linter.unusedSimpArgs false

/-- What a walk answers. -/
def Fol (w : World) (o : Nat → Prop) (op : List UInt8) (T : TypeId) (sv : Value) (Er : List UInt8 → World → Value → Prop) (G : List (List UInt8) → (Nat → Prop) → World → Prop) (r : Option (List UInt8) × Ws × List (List UInt8)) (e : Ending) (w' : World) : Prop :=
  (∃ i v eb ev P x wb ub, r.1 = some i ∧ e = .returned (.tuple #[v, faultV eb]) ∧ FltAt w' eb op i ev ∧ Er i w' ev ∧ Wz w o wb ub T sv G P x r.2.1 w') ∨
  (∃ P x br K, r.1 = none ∧ e = .returned (.tuple #[.pointer (some ⟨P, 0, none⟩), .nilIface]) ∧ x.op = op ∧ x.deep = .map (some br) ∧ canon K = r.2.2 ∧ Fr w o T sv G P x r.2.1 br K w')

set_option maxHeartbeats 3200000 in
set_option maxRecDepth 100000 in
theorem follow_ok {T : TypeId} {sv : Value} {fn : Nat} {rv : Value} {f : List UInt8 → An} {Er : List UInt8 → World → Value → Prop} {G : List (List UInt8) → (Nat → Prop) → World → Prop} (S : Src T sv fn rv f Er G) (op : List UInt8) {ord : List (List UInt8)} {o : Nat → Prop} {w : World} (hG : G ord o w) (gl : GlE w) (tabs : Tabs w) (offg : ∀ b, b < 4 → ¬ o b)
    (ao : Option Addr) (n c : Nat) (L : List Rz) (hl : L.length = n) (hL : Rss w ao L) (hn : n ≤ 4611686018427387904) (hfar : L ≠ [] → ∀ a, ao = some a → a.block < w.heap.size)
    (U : List (List UInt8)) (hU : ∀ q ∈ L.map (·.root), q ∈ U) (hf : ∀ i xs E, f i = .data xs → Tn.parse xs = some E → ∀ e ∈ E, e.id ∈ U) (hUl : U.length ≤ 4398046511104) (hord : ord = []) :
    Calls Tryz.prog 22 #[.string ⟨op.toArray⟩, .iface T sv, .slice ao n c] w fun e w' => Fol w o op T sv Er G (walkW f ord (L.map (·.root))) e w' := by
  have hmk : ∀ W : World, (Instr.makeMap 77 none).run Tryz.prog W = .ok (.map (some W.heap.size)) (W.alloc (.map #[] 0)) := fun _ => rfl
  have hmf : ∀ W : World, (Instr.makeMap 78 none).run Tryz.prog W = .ok (.map (some W.heap.size)) (W.alloc (.map #[] 0)) := fun _ => rfl
  have hro : ∀ W : World, Kept [] w W → Calls Tryz.prog 31 #[.slice ao n c] W fun e w' => ∃ b', e = .returned (.map (some b')) ∧ Is w' b' (insA [] (L.map (·.root))) ∧ Kept [] W w' ∧ W.heap.size ≤ b' := fun W hk => roots_ok ao n c L W hl (hL.kept hk (by simp)) hn (fun h a ha => Nat.lt_of_lt_of_le (hfar h a ha) hk.size)
  have HRO := hide hro
  have HB := hide (And.intro hG (And.intro gl (And.intro tabs offg)))
  have HU := hide (And.intro hU (And.intro hf hUl))
  have HORD := hide hord
  clear hro hG gl tabs offg hl hL hfar hU hf hUl hord
  obtain ⟨w1, hw1⟩ : ∃ w1, w1 = w.alloc (.map #[] 0) := ⟨_, rfl⟩
  have hk1 : Kept [] w w1 := by rw [hw1]; exact (Kept.refl [] w).alloc _
  have hr1 := HRO.out w1 hk1
  rw [hw1] at hr1
  go_enter Tryz.func22, Tryz.ntmps22
  go_upto_region 3 with (fail)
  go_upto_region 4 with (first
    | (go_at_call 31; refine hr1.mono ?_; rintro e w2 ⟨bN, rfl, hsN, hk2, hbN⟩; have HN2 := hide (And.intro hsN (And.intro hk2 hbN)); clear hr1 hsN hk2 hbN))
  have hbg := Wz.begin4 S op HB.out.1 HB.out.2.1 HB.out.2.2.1 HB.out.2.2.2 HN2.out.1 HN2.out.2.1 HN2.out.2.2
  have HZ0 := hide hbg.2
  have hr2 := HRO.out _ hbg.1
  show Code.wp _ _ _ _ (begW w2 (wfd0 op T sv w.heap.size bN w2.heap.size))
  clear hbg hmk hmf hk1 hw1 HN2
  obtain ⟨x, hx⟩ : ∃ x, wfd0 op T sv w.heap.size bN w2.heap.size = x := ⟨_, rfl⟩
  have HX : Hid (x.op = op ∧ x.deep = .map none) := hide (by rw [← hx]; exact ⟨rfl, rfl⟩)
  rw [hx] at HZ0 hr2 ⊢
  generalize begW w2 x = w3 at HZ0 hr2 ⊢
  generalize w2.heap.size + 1 + 1 + 1 = P at HZ0 ⊢
  clear hx
  go_upto_region 5 with (first
    | (go_at_call 31; refine hr2.mono ?_; rintro e w4 ⟨br, rfl, hsR, hk4, hbr⟩; have HF4 := hide (Fr.next S HZ0.out hk4 hbr hsR); clear hr2 hsR hk4 hbr HZ0))
  obtain ⟨s0, hs0⟩ : ∃ s0, s0 = (⟨ord, [], insA [] (L.map (·.root)), [], [], fun _ => []⟩ : Ws) := ⟨_, rfl⟩
  have HS0 := hide hs0
  rw [← hs0] at HF4
  clear hs0 HRO HB
  have HI0 : Hid (InU U s0) := hide (by
    rw [HS0.out]
    refine ⟨fun q hq => ?_, fun i q hq => by cases hq⟩
    have hq : q ∈ insA [] (L.map (·.root)) := hq
    rcases mem_insA.1 hq with h | h
    · cases h
    · exact HU.out.1 q h)
  have HO0 : Hid (OrU U s0) := hide (by
    rw [HS0.out, HORD.out]
    exact ⟨Nat.le_refl _, by simp, fun q hq => by simp at hq⟩)
  have HK0 : Hid (∀ q ∈ insA [] (L.map (·.root)), q ∈ U) := hide (by
    intro q hq
    rcases mem_insA.1 hq with h | h
    · cases h
    · exact HU.out.1 q h)
  go_wp2
  go_loopw [9, 26] (fun z y wr => ∃ (k b : Nat) (K : List (List UInt8)) (s' : Ws), k ≤ 6 ∧ y = .int .i64 k ∧ z = .map (some b) ∧ Hid (Fr w o T sv G P x s' b K wr ∧ InU U s' ∧ (∀ q ∈ K, q ∈ U) ∧ Ws.rounds f 6 s0 (canon (L.map (·.root))) = Ws.rounds f (6 - k) s' (canon K) ∧ OrU U s')) (fun z y wr => 6 - (intOf y).toNat)
  case atStart => exact ⟨0, br, _, s0, by omega, rfl, rfl, hide ⟨HF4.out, HI0.out, HK0.out, by rw [canon_insA, Nat.sub_zero], HO0.out⟩⟩
  case round =>
    clear HF4 HI0 HK0 HO0
    obtain ⟨k, b, K, s', hk, rfl, rfl, HI⟩ := hrel
    have HFR := hide HI.out.1
    obtain ⟨wb, ub, hz, hsb, hub⟩ := HI.out.1
    have HZ := hide hz
    have HSB := hide (And.intro hsb hub)
    clear hz hsb hub
    by_cases hlt : k < 6
    · have hKl : K.length ≤ 4398046511104 := Nat.le_trans (nodup_le (Im.nodup HFR.out.is) HI.out.2.2.1) HU.out.2.2
      obtain ⟨m, hm⟩ : ∃ m, 6 - k = m + 1 := ⟨5 - k, by omega⟩
      have HR := hide HI.out.2.2.2.1
      rw [hm] at HR
      obtain ⟨⟨r, s5⟩, hT⟩ : ∃ r, Ws.trees f s' (canon K) = r := ⟨_, rfl⟩
      have HT := hide hT
      cases r with
      | some i =>
        have hat := atrees_some S HZ.out b K HFR.out.is hKl U HU.out.2.2 HI.out.2.2.2.2 HI.out.2.2.1 hT
        clear hT hKl
        go_wp2_with (go_at_call 32; refine hat.mono ?_; rintro e w5 ⟨eb, ev, rfl, hfa, her, hz5⟩; have H5 := hide (And.intro hfa (And.intro her hz5)); clear hat hfa her hz5; unfold faultV)
        go_ret2
        have e1 := HR.out
        rw [rounds_some HT.out, HS0.out] at e1
        rw [walkW_some e1]
        refine .inl ⟨i, _, eb, ev, P, x, wb, ub, rfl, rfl, ?_, H5.out.2.1, H5.out.2.2⟩
        rw [← HX.out.1]
        exact H5.out.1
      | none =>
        have hat := atrees_none S HZ.out b K HFR.out.is hKl U HU.out.2.2 HI.out.2.2.2.2 HI.out.2.2.1 hT
        clear hT hKl
        go_upto_region 10 with (go_at_call 32; refine hat.mono ?_; rintro e w5 ⟨rfl, hz5⟩; have H5 := hide hz5; clear hat hz5)
        have hfr5 : Fr w o T sv G P x s5 b K w5 := ⟨wb, ub, H5.out, HSB.out.1, HSB.out.2⟩
        have hnx := znext_ok H5.out b K hfr5.is
        clear hfr5
        go_wp2_with (go_at_call 33; refine hnx.mono ?_; rintro e w6 ⟨b', K', rfl, g1, g2, g3, g4⟩; have H6 := hide (And.intro (Fr.next S H5.out g3 g4 g1) g2); clear hnx g1 g2 g3 g4)
        go_roundw
        case rel =>
          have hin : InU U s5 := by have := inU_trees HU.out.2.1 (canon K) HI.out.2.1; rw [HT.out] at this; exact this
          have hor5 : OrU U s5 := by
            have h := trees_orU (f := f) (canon K) HI.out.2.2.2.2 (fun q hq => HI.out.2.2.1 q (mem_canon.1 hq))
            rw [HT.out] at h
            exact h
          refine ⟨k + 1, b', K', s5, by omega, by go_num, rfl, hide ⟨H6.out.1, hin, fun q hq => ?_, ?_, hor5⟩⟩
          · obtain ⟨i, _, h2⟩ := (H6.out.2 q).1 hq
            exact hin.2 i q h2
          · have e9 : 6 - (k + 1) = m := by omega
            rw [HR.out, rounds_none HT.out, canon_next H6.out.2, e9]
        case measure => simp [intOf]; omega
    · have HE : Hid (Ws.rounds f 6 s0 (canon (L.map (·.root))) = (none, s', canon K)) := hide (by
        have e6 : 6 - k = 0 := by omega
        have e7 := HI.out.2.2.2.1
        rw [e6] at e7
        exact e7)
      have hNl : s'.N.length ≤ 4398046511104 := Nat.le_trans (nodup_le HZ.out.needs HI.out.2.1.1) HU.out.2.2
      have HOS := hide (And.intro HI.out.2.2.2.2 HI.out.2.1.1)
      have c6 := HZ.out.cell6
      have f6 : wr.frozen? ⟨P, 6, none⟩ = false := by obtain ⟨F, V, o9, h1, _⟩ := HZ.out; exact frozen_of_row _ _ _ _ _ h1.wk.row
      rw [HX.out.2] at c6
      obtain ⟨wb6, ub6, hz6, hsb6, hub6⟩ := Fr.deepen S HFR.out
      have HB6 := hide (And.intro hsb6 hub6)
      clear hsb6 hub6 HSB HZ HFR HI
      obtain ⟨⟨r, s5⟩, hT⟩ : ∃ r, Ws.others f s' (canon s'.N) = r := ⟨_, rfl⟩
      have HT := hide hT
      cases r with
      | some i =>
        have hao := aothers_some S hz6 hNl U HU.out.2.2 HOS.out.1 HOS.out.2 hT
        clear hT hNl hz6
        go_wp2_with (go_at_call 34; refine hao.mono ?_; rintro e w5 ⟨eb, ev, rfl, hfa, her, hz5⟩; have H5 := hide (And.intro hfa (And.intro her hz5)); clear hao hfa her hz5; unfold faultV)
        go_ret2
        have e1 := HE.out
        rw [HS0.out] at e1
        rw [walkW_none e1, HT.out]
        refine .inl ⟨i, _, eb, ev, P, _, wb6, ub6, rfl, rfl, ?_, H5.out.2.1, H5.out.2.2⟩
        rw [← HX.out.1]
        exact H5.out.1
      | none =>
        have hao := aothers_none S hz6 hNl U HU.out.2.2 HOS.out.1 HOS.out.2 hT
        clear hT hNl hz6
        go_wp2_with (go_at_call 34; refine hao.mono ?_; rintro e w5 ⟨rfl, hz5⟩; have H5 := hide hz5; clear hao hz5)
        go_ret2
        have e1 := HE.out
        rw [HS0.out] at e1
        rw [walkW_none e1, HT.out]
        exact .inr ⟨P, { x with deep := .map (some b) }, b, K, rfl, rfl, HX.out.1, rfl, rfl, wb6, ub6, H5.out, HB6.out.1, HB6.out.2⟩
end

section
open Go.RowKit Go.Lib Go.Sort
set_option linter.unusedVariables false
set_option linter.unusedSimpArgs false

set_option maxHeartbeats 3200000 in
set_option maxRecDepth 100000 in
theorem follow_nil {fn : Nat} {rv : Value} {f : List UInt8 → An} {Er : List UInt8 → World → Value → Prop} {G : List (List UInt8) → (Nat → Prop) → World → Prop} (S : Src 26 (.map none) fn rv f Er G) (op : List UInt8) {ord : List (List UInt8)} {o : Nat → Prop} {w : World} (hG : G ord o w) (gl : GlE w) (tabs : Tabs w) (offg : ∀ b, b < 4 → ¬ o b)
    (ao : Option Addr) (n c : Nat) (L : List Rz) (hl : L.length = n) (hL : Rss w ao L) (hn : n ≤ 4611686018427387904) (hfar : L ≠ [] → ∀ a, ao = some a → a.block < w.heap.size)
    (U : List (List UInt8)) (hU : ∀ q ∈ L.map (·.root), q ∈ U) (hf : ∀ i xs E, f i = .data xs → Tn.parse xs = some E → ∀ e ∈ E, e.id ∈ U) (hUl : U.length ≤ 4398046511104) (hord : ord = []) :
    Calls Tryz.prog 22 #[.string ⟨op.toArray⟩, .nilIface, .slice ao n c] w fun e w' => Fol w o op 26 (.map none) Er G (walkW f ord (L.map (·.root))) e w' := by
  have hmk : ∀ W : World, (Instr.makeMap 77 none).run Tryz.prog W = .ok (.map (some W.heap.size)) (W.alloc (.map #[] 0)) := fun _ => rfl
  have hmf : ∀ W : World, (Instr.makeMap 78 none).run Tryz.prog W = .ok (.map (some W.heap.size)) (W.alloc (.map #[] 0)) := fun _ => rfl
  have hro : ∀ W : World, Kept [] w W → Calls Tryz.prog 31 #[.slice ao n c] W fun e w' => ∃ b', e = .returned (.map (some b')) ∧ Is w' b' (insA [] (L.map (·.root))) ∧ Kept [] W w' ∧ W.heap.size ≤ b' := fun W hk => roots_ok ao n c L W hl (hL.kept hk (by simp)) hn (fun h a ha => Nat.lt_of_lt_of_le (hfar h a ha) hk.size)
  have HRO := hide hro
  have HB := hide (And.intro hG (And.intro gl (And.intro tabs offg)))
  have HU := hide (And.intro hU (And.intro hf hUl))
  have HORD := hide hord
  clear hro hG gl tabs offg hl hL hfar hU hf hUl hord
  obtain ⟨w1, hw1⟩ : ∃ w1, w1 = w.alloc (.map #[] 0) := ⟨_, rfl⟩
  have hk1 : Kept [] w w1 := by rw [hw1]; exact (Kept.refl [] w).alloc _
  have hr1 := HRO.out w1 hk1
  rw [hw1] at hr1
  go_enter Tryz.func22, Tryz.ntmps22
  go_upto_region 3 with (fail)
  go_upto_region 4 with (first
    | (go_at_call 31; refine hr1.mono ?_; rintro e w2 ⟨bN, rfl, hsN, hk2, hbN⟩; have HN2 := hide (And.intro hsN (And.intro hk2 hbN)); clear hr1 hsN hk2 hbN))
  have hbg := Wz.begin4 S op HB.out.1 HB.out.2.1 HB.out.2.2.1 HB.out.2.2.2 HN2.out.1 HN2.out.2.1 HN2.out.2.2
  have HZ0 := hide hbg.2
  have hr2 := HRO.out _ hbg.1
  show Code.wp _ _ _ _ (begW w2 (wfd0 op 26 (.map none) w.heap.size bN w2.heap.size))
  clear hbg hmk hmf hk1 hw1 HN2
  obtain ⟨x, hx⟩ : ∃ x, wfd0 op 26 (.map none) w.heap.size bN w2.heap.size = x := ⟨_, rfl⟩
  have HX : Hid (x.op = op ∧ x.deep = .map none) := hide (by rw [← hx]; exact ⟨rfl, rfl⟩)
  rw [hx] at HZ0 hr2 ⊢
  generalize begW w2 x = w3 at HZ0 hr2 ⊢
  generalize w2.heap.size + 1 + 1 + 1 = P at HZ0 ⊢
  clear hx
  go_upto_region 5 with (first
    | (go_at_call 31; refine hr2.mono ?_; rintro e w4 ⟨br, rfl, hsR, hk4, hbr⟩; have HF4 := hide (Fr.next S HZ0.out hk4 hbr hsR); clear hr2 hsR hk4 hbr HZ0))
  obtain ⟨s0, hs0⟩ : ∃ s0, s0 = (⟨ord, [], insA [] (L.map (·.root)), [], [], fun _ => []⟩ : Ws) := ⟨_, rfl⟩
  have HS0 := hide hs0
  rw [← hs0] at HF4
  clear hs0 HRO HB
  have HI0 : Hid (InU U s0) := hide (by
    rw [HS0.out]
    refine ⟨fun q hq => ?_, fun i q hq => by cases hq⟩
    have hq : q ∈ insA [] (L.map (·.root)) := hq
    rcases mem_insA.1 hq with h | h
    · cases h
    · exact HU.out.1 q h)
  have HO0 : Hid (OrU U s0) := hide (by
    rw [HS0.out, HORD.out]
    exact ⟨Nat.le_refl _, by simp, fun q hq => by simp at hq⟩)
  have HK0 : Hid (∀ q ∈ insA [] (L.map (·.root)), q ∈ U) := hide (by
    intro q hq
    rcases mem_insA.1 hq with h | h
    · cases h
    · exact HU.out.1 q h)
  go_wp2
  go_loopw [9, 26] (fun z y wr => ∃ (k b : Nat) (K : List (List UInt8)) (s' : Ws), k ≤ 6 ∧ y = .int .i64 k ∧ z = .map (some b) ∧ Hid (Fr w o 26 (.map none) G P x s' b K wr ∧ InU U s' ∧ (∀ q ∈ K, q ∈ U) ∧ Ws.rounds f 6 s0 (canon (L.map (·.root))) = Ws.rounds f (6 - k) s' (canon K) ∧ OrU U s')) (fun z y wr => 6 - (intOf y).toNat)
  case atStart => exact ⟨0, br, _, s0, by omega, rfl, rfl, hide ⟨HF4.out, HI0.out, HK0.out, by rw [canon_insA, Nat.sub_zero], HO0.out⟩⟩
  case round =>
    clear HF4 HI0 HK0 HO0
    obtain ⟨k, b, K, s', hk, rfl, rfl, HI⟩ := hrel
    have HFR := hide HI.out.1
    obtain ⟨wb, ub, hz, hsb, hub⟩ := HI.out.1
    have HZ := hide hz
    have HSB := hide (And.intro hsb hub)
    clear hz hsb hub
    by_cases hlt : k < 6
    · have hKl : K.length ≤ 4398046511104 := Nat.le_trans (nodup_le (Im.nodup HFR.out.is) HI.out.2.2.1) HU.out.2.2
      obtain ⟨m, hm⟩ : ∃ m, 6 - k = m + 1 := ⟨5 - k, by omega⟩
      have HR := hide HI.out.2.2.2.1
      rw [hm] at HR
      obtain ⟨⟨r, s5⟩, hT⟩ : ∃ r, Ws.trees f s' (canon K) = r := ⟨_, rfl⟩
      have HT := hide hT
      cases r with
      | some i =>
        have hat := atrees_some S HZ.out b K HFR.out.is hKl U HU.out.2.2 HI.out.2.2.2.2 HI.out.2.2.1 hT
        clear hT hKl
        go_wp2_with (go_at_call 32; refine hat.mono ?_; rintro e w5 ⟨eb, ev, rfl, hfa, her, hz5⟩; have H5 := hide (And.intro hfa (And.intro her hz5)); clear hat hfa her hz5; unfold faultV)
        go_ret2
        have e1 := HR.out
        rw [rounds_some HT.out, HS0.out] at e1
        rw [walkW_some e1]
        refine .inl ⟨i, _, eb, ev, P, x, wb, ub, rfl, rfl, ?_, H5.out.2.1, H5.out.2.2⟩
        rw [← HX.out.1]
        exact H5.out.1
      | none =>
        have hat := atrees_none S HZ.out b K HFR.out.is hKl U HU.out.2.2 HI.out.2.2.2.2 HI.out.2.2.1 hT
        clear hT hKl
        go_upto_region 10 with (go_at_call 32; refine hat.mono ?_; rintro e w5 ⟨rfl, hz5⟩; have H5 := hide hz5; clear hat hz5)
        have hfr5 : Fr w o 26 (.map none) G P x s5 b K w5 := ⟨wb, ub, H5.out, HSB.out.1, HSB.out.2⟩
        have hnx := znext_ok H5.out b K hfr5.is
        clear hfr5
        go_wp2_with (go_at_call 33; refine hnx.mono ?_; rintro e w6 ⟨b', K', rfl, g1, g2, g3, g4⟩; have H6 := hide (And.intro (Fr.next S H5.out g3 g4 g1) g2); clear hnx g1 g2 g3 g4)
        go_roundw
        case rel =>
          have hin : InU U s5 := by have := inU_trees HU.out.2.1 (canon K) HI.out.2.1; rw [HT.out] at this; exact this
          have hor5 : OrU U s5 := by
            have h := trees_orU (f := f) (canon K) HI.out.2.2.2.2 (fun q hq => HI.out.2.2.1 q (mem_canon.1 hq))
            rw [HT.out] at h
            exact h
          refine ⟨k + 1, b', K', s5, by omega, by go_num, rfl, hide ⟨H6.out.1, hin, fun q hq => ?_, ?_, hor5⟩⟩
          · obtain ⟨i, _, h2⟩ := (H6.out.2 q).1 hq
            exact hin.2 i q h2
          · have e9 : 6 - (k + 1) = m := by omega
            rw [HR.out, rounds_none HT.out, canon_next H6.out.2, e9]
        case measure => simp [intOf]; omega
    · have HE : Hid (Ws.rounds f 6 s0 (canon (L.map (·.root))) = (none, s', canon K)) := hide (by
        have e6 : 6 - k = 0 := by omega
        have e7 := HI.out.2.2.2.1
        rw [e6] at e7
        exact e7)
      have hNl : s'.N.length ≤ 4398046511104 := Nat.le_trans (nodup_le HZ.out.needs HI.out.2.1.1) HU.out.2.2
      have HOS := hide (And.intro HI.out.2.2.2.2 HI.out.2.1.1)
      have c6 := HZ.out.cell6
      have f6 : wr.frozen? ⟨P, 6, none⟩ = false := by obtain ⟨F, V, o9, h1, _⟩ := HZ.out; exact frozen_of_row _ _ _ _ _ h1.wk.row
      rw [HX.out.2] at c6
      obtain ⟨wb6, ub6, hz6, hsb6, hub6⟩ := Fr.deepen S HFR.out
      have HB6 := hide (And.intro hsb6 hub6)
      clear hsb6 hub6 HSB HZ HFR HI
      obtain ⟨⟨r, s5⟩, hT⟩ : ∃ r, Ws.others f s' (canon s'.N) = r := ⟨_, rfl⟩
      have HT := hide hT
      cases r with
      | some i =>
        have hao := aothers_some S hz6 hNl U HU.out.2.2 HOS.out.1 HOS.out.2 hT
        clear hT hNl hz6
        go_wp2_with (go_at_call 34; refine hao.mono ?_; rintro e w5 ⟨eb, ev, rfl, hfa, her, hz5⟩; have H5 := hide (And.intro hfa (And.intro her hz5)); clear hao hfa her hz5; unfold faultV)
        go_ret2
        have e1 := HE.out
        rw [HS0.out] at e1
        rw [walkW_none e1, HT.out]
        refine .inl ⟨i, _, eb, ev, P, _, wb6, ub6, rfl, rfl, ?_, H5.out.2.1, H5.out.2.2⟩
        rw [← HX.out.1]
        exact H5.out.1
      | none =>
        have hao := aothers_none S hz6 hNl U HU.out.2.2 HOS.out.1 HOS.out.2 hT
        clear hT hNl hz6
        go_wp2_with (go_at_call 34; refine hao.mono ?_; rintro e w5 ⟨rfl, hz5⟩; have H5 := hide hz5; clear hao hz5)
        go_ret2
        have e1 := HE.out
        rw [HS0.out] at e1
        rw [walkW_none e1, HT.out]
        exact .inr ⟨P, { x with deep := .map (some b) }, b, K, rfl, rfl, HX.out.1, rfl, rfl, wb6, ub6, H5.out, HB6.out.1, HB6.out.2⟩
end

section
open Go.RowKit Go.Lib Go.Sort
set_option linter.unusedVariables false
set_option linter.unusedSimpArgs false

set_option maxHeartbeats 1600000 in
set_option maxRecDepth 100000 in
theorem least_ok (b : Nat) (K : List (List UInt8)) (w : World) (hs : Is w b K) (hn : K.length ≤ 4398046511104) (h0 : K ≠ []) :
    Calls Tryz.prog 24 #[.map (some b)] w fun e w' => e = .returned (.agg (bys ((canon K).getD 0 [])).toArray) ∧ ((canon K).getD 0 []).length = 32 ∧ Kept [] w w' := by
  have hka : Kept [] w (w.alloc (.cells zeroI 36)) := (Kept.refl [] w).alloc _
  have hri := rising_ok b K _ (hs.kept hka (by simp)) hn
  have HR := hide (And.intro (new_atK w (.cells zeroI 36)) hka)
  have HK := hide (And.intro hn h0)
  have hz := Tryz.zeroId
  clear hs hn h0 hka
  go_enter Tryz.func24, Tryz.ntmps24
  go_wp2_with (go_at_call 25; fail)
  refine hri.mono ?_
  rintro e w1 ⟨v, R, rfl, hov, hpm, hup, hk1⟩
  obtain ⟨ao, c, hvv, hcc⟩ := own_shape hov.1
  subst hvv
  have HE : Hid (R = canon K) := hide (canon_of hpm hup (fun _ => Iff.rfl))
  have hpos : 0 < R.length := by rw [hpm.length_eq]; exact List.length_pos_iff.2 HK.out.2
  have hle : R.length ≤ 4398046511104 := by rw [hpm.length_eq]; exact HK.out.1
  have HK1 := hide (HR.out.2.trans hk1 (by simp))
  have hnz : w1.heap[w.heap.size]? = some (.cells zeroI 36 (0, 0)) := by rw [hk1.block _ (Array.getElem?_eq_some_iff.1 HR.out.1).1 (by simp)]; exact HR.out.1
  have hrow := hov.ids.1
  obtain ⟨g, off, hao, hrg⟩ := hrow.1 0 hpos
  subst hao
  have hi : (R.getD 0 []).length = 32 := hrow.2 _ (getD_memI hpos)
  obtain ⟨i, hie⟩ : ∃ i, R.getD 0 [] = i := ⟨_, rfl⟩
  have HIE := hide hie
  rw [hie] at hrg hi
  obtain ⟨n, hnn⟩ : ∃ n, R.length = n := ⟨_, rfl⟩
  rw [hnn] at hpos hle ⊢
  have hil := idl i hi
  have hia := ida i hi
  have hiz := idz i hi
  have hal := idall i
  have hoff : off + 0 * 32 = off := by omega
  rw [hoff] at hrg
  clear hri hov hpm hup hk1 hcc hrow hie hnn hoff
  simp only []
  go_at_K
  go_wp2_with (first
    | refine wpList_load_mid rfl 36 (.tmp 5) rfl g off rfl (bys i) _ hrg Tryz.underlying36 rfl hil ?_
    | refine wpList_store_rowTo rfl 36 (.tmp 2) (.tmp 6) rfl rfl w.heap.size (bys i).toArray rfl rfl 36 zeroI hnz hia hiz hal ?_)
  refine ret_row rfl rfl w.heap.size 36 _ (0, 0) _ rfl (setRow_heap _ _ _ _ _ _ hnz) Tryz.underlying36 rfl hia ?_
  refine ⟨?_, ?_, ?_⟩
  · rw [← HE.out, HIE.out]
  · rw [← HE.out, HIE.out]; exact hi
  · exact kept_rowK HK1.out (fun h => absurd h (Nat.lt_irrefl _)) _
end

section
open Go.RowKit Go.Lib Go.Sort
set_option linter.unusedVariables false
set_option linter.unusedSimpArgs false

def InL (U : List (List UInt8)) (s : Ws) : Prop := (∀ q ∈ s.L, q ∈ U) ∧ ∀ q ∈ s.B, q ∈ U
theorem inI {U K : List (List UInt8)} {i : List UInt8} (h : ∀ q ∈ K, q ∈ U) (hi : i ∈ U) : ∀ q ∈ insI K i, q ∈ U := fun q hq => by
  rcases mem_insI.1 hq with h1 | h1
  · exact h q h1
  · rw [h1]; exact hi
theorem inL_tree {U : List (List UInt8)} {f : List UInt8 → An} {s : Ws} (h : InL U s) {i : List UInt8} (hi : i ∈ U) : InL U (s.tree f i).2 := by
  unfold Ws.tree
  by_cases hA : i ∈ s.A
  · rw [if_pos hA]; exact h
  · rw [if_neg hA]
    cases f i with
    | fail => exact h
    | lack => exact ⟨inI h.1 hi, h.2⟩
    | data xs =>
      show InL U ((s.asked i).readE i (Tn.parse xs))
      cases Tn.parse xs with
      | none => exact ⟨h.1, inI h.2 hi⟩
      | some E => exact h
theorem inL_trees {U : List (List UInt8)} {f : List UInt8 → An} : ∀ (R : List (List UInt8)) {s : Ws}, InL U s → (∀ q ∈ R, q ∈ U) → InL U (Ws.trees f s R).2
  | [], s, h, _ => h
  | i :: R, s, h, hR => by
    have h1 := inL_tree (f := f) h (hR i (by simp))
    simp only [Ws.trees]
    by_cases hc : (s.tree f i).1 = true
    · rw [if_pos hc]; exact inL_trees R h1 (fun q hq => hR q (by simp [hq]))
    · rw [if_neg hc]; exact h1
theorem inL_other {U : List (List UInt8)} {f : List UInt8 → An} {s : Ws} (h : InL U s) {i : List UInt8} (hi : i ∈ U) : InL U (s.other f i).2 ∧ (s.other f i).2.N = s.N := by
  unfold Ws.other
  by_cases hA : i ∈ s.A
  · rw [if_pos hA]; exact ⟨h, rfl⟩
  · rw [if_neg hA]
    cases f i with
    | fail => exact ⟨h, rfl⟩
    | lack => exact ⟨⟨inI h.1 hi, h.2⟩, rfl⟩
    | data xs => exact ⟨h, rfl⟩
theorem inL_others {U : List (List UInt8)} {f : List UInt8 → An} : ∀ (R : List (List UInt8)) {s : Ws}, InL U s → (∀ q ∈ R, q ∈ U) → InL U (Ws.others f s R).2 ∧ (Ws.others f s R).2.N = s.N
  | [], s, h, _ => ⟨h, rfl⟩
  | i :: R, s, h, hR => by
    have h1 := inL_other (f := f) h (hR i (by simp))
    simp only [Ws.others]
    by_cases hc : (s.other f i).1 = true
    · rw [if_pos hc]
      have h2 := inL_others (f := f) R h1.1 (fun q hq => hR q (by simp [hq]))
      exact ⟨h2.1, h2.2.trans h1.2⟩
    · rw [if_neg hc]; exact h1
theorem in_rounds {U : List (List UInt8)} {f : List UInt8 → An} (hf : ∀ i xs E, f i = .data xs → Tn.parse xs = some E → ∀ e ∈ E, e.id ∈ U) : ∀ (n : Nat) (s : Ws) (R : List (List UInt8)), InU U s → InL U s → (∀ q ∈ R, q ∈ U) → InU U (Ws.rounds f n s R).2.1 ∧ InL U (Ws.rounds f n s R).2.1 ∧ ∀ q ∈ (Ws.rounds f n s R).2.2, q ∈ U
  | 0, s, R, h1, h2, h3 => ⟨h1, h2, h3⟩
  | n + 1, s, R, h1, h2, h3 => by
    have g1 := inU_trees hf R h1
    have g2 := inL_trees (f := f) R h2 h3
    obtain ⟨⟨r, s'⟩, hT⟩ : ∃ r, Ws.trees f s R = r := ⟨_, rfl⟩
    rw [hT] at g1 g2
    cases r with
    | some i => rw [rounds_some hT]; exact ⟨g1, g2, h3⟩
    | none =>
      rw [rounds_none hT]
      refine in_rounds hf n s' _ g1 g2 (fun q hq => ?_)
      obtain ⟨i, _, hi⟩ := List.mem_flatMap.1 (mem_canon.1 hq)
      exact g1.2 i q hi
/-- All that the walk tells of. -/
theorem walkW_in {U : List (List UInt8)} {f : List UInt8 → An} (hf : ∀ i xs E, f i = .data xs → Tn.parse xs = some E → ∀ e ∈ E, e.id ∈ U) (ord : List (List UInt8)) {roots : List (List UInt8)} (hU : ∀ q ∈ roots, q ∈ U) :
    (∀ q ∈ (walkW f ord roots).2.1.N, q ∈ U) ∧ InL U (walkW f ord roots).2.1 ∧ ∀ q ∈ (walkW f ord roots).2.2, q ∈ U := by
  have h0 : InU U (⟨ord, [], insA [] roots, [], [], fun _ => []⟩ : Ws) := ⟨fun q hq => by
    have hq : q ∈ insA [] roots := hq
    rcases mem_insA.1 hq with h | h
    · cases h
    · exact hU q h, fun i q hq => by cases hq⟩
  have h1 : InL U (⟨ord, [], insA [] roots, [], [], fun _ => []⟩ : Ws) := ⟨fun q hq => (by cases hq), fun q hq => (by cases hq)⟩
  obtain ⟨g1, g2, g3⟩ := in_rounds hf 6 _ _ h0 h1 (fun q hq => hU q (mem_canon.1 hq))
  obtain ⟨⟨r, s, R⟩, hR⟩ : ∃ r, Ws.rounds f 6 ⟨ord, [], insA [] roots, [], [], fun _ => []⟩ (canon roots) = r := ⟨_, rfl⟩
  rw [hR] at g1 g2 g3
  cases r with
  | some i => rw [walkW_some hR]; exact ⟨g1.1, g2, g3⟩
  | none =>
    rw [walkW_none hR]
    have h2 := inL_others (f := f) (canon s.N) g2 (fun q hq => g1.1 q (mem_canon.1 hq))
    exact ⟨fun q hq => g1.1 q (by rw [← h2.2]; exact hq), h2.1, g3⟩
end

section
open Go.RowKit Go.Lib Go.Sort
set_option linter.unusedVariables false
set_option linter.unusedSimpArgs false

def opLacks : List UInt8 := [114, 101, 97, 99, 104, 46, 108, 97, 99, 107, 115]
def opNeed : List UInt8 := [114, 101, 97, 99, 104, 46, 110, 101, 101, 100]

section
variable {w : World} {o : Nat → Prop} {op : List UInt8} {T : TypeId} {sv : Value} {fn : Nat} {rv : Value} {f : List UInt8 → An} {Er : List UInt8 → World → Value → Prop} {G : List (List UInt8) → (Nat → Prop) → World → Prop} {r : Option (List UInt8) × Ws × List (List UInt8)} {e : Ending} {w' : World}
theorem fol_bad {i : List UInt8} (h : Fol w o op T sv Er G r e w') (hr : r.1 = some i) : ∃ v eb ev P x wb ub, e = .returned (.tuple #[v, faultV eb]) ∧ FltAt w' eb op i ev ∧ Er i w' ev ∧ Wz w o wb ub T sv G P x r.2.1 w' := by
  rcases h with ⟨i', v, eb, ev, P, x, wb, ub, h1, h2⟩ | ⟨P, x, br, K, h1, _⟩
  · rw [hr] at h1
    cases h1
    exact ⟨v, eb, ev, P, x, wb, ub, h2⟩
  · rw [hr] at h1; cases h1
theorem fol_good (h : Fol w o op T sv Er G r e w') (hr : r.1 = none) : ∃ P x br K, e = .returned (.tuple #[.pointer (some ⟨P, 0, none⟩), .nilIface]) ∧ x.op = op ∧ x.deep = .map (some br) ∧ canon K = r.2.2 ∧ Fr w o T sv G P x r.2.1 br K w' := by
  rcases h with ⟨i', v, eb, ev, P, x, wb, ub, h1, h2⟩ | ⟨P, x, br, K, h1, h2⟩
  · rw [hr] at h1; cases h1
  · exact ⟨P, x, br, K, h2⟩
end

/-- What Lacks answers. -/
def Lks (w : World) (o : Nat → Prop) (T : TypeId) (sv : Value) (Er : List UInt8 → World → Value → Prop) (G : List (List UInt8) → (Nat → Prop) → World → Prop) (r : Option (List UInt8) × Ws × List (List UInt8)) (e : Ending) (w' : World) : Prop :=
  (∃ i eb ev P x wb ub, r.1 = some i ∧ e = .returned (.tuple #[.slice none 0 0, faultV eb]) ∧ FltAt w' eb opLacks i ev ∧ Er i w' ev ∧ Wz w o wb ub T sv G P x r.2.1 w') ∨
  (∃ v w1 P x wb ub, r.1 = none ∧ e = .returned (.tuple #[v, .nilIface]) ∧ OwnI w' w1.heap.size v (canon r.2.1.L) ∧ w.heap.size ≤ w1.heap.size ∧ Kept [] w1 w' ∧ Wz w o wb ub T sv G P x r.2.1 w1)

set_option maxHeartbeats 1600000 in
set_option maxRecDepth 100000 in
theorem lacks_of {T : TypeId} {sv : Value} {fn : Nat} {rv : Value} {f : List UInt8 → An} {Er : List UInt8 → World → Value → Prop} {G : List (List UInt8) → (Nat → Prop) → World → Prop} {o : Nat → Prop} {w : World} {sv0 : Value} {ao : Option Addr} {n c : Nat} {r : Option (List UInt8) × Ws × List (List UInt8)}
    (hfo : Calls Tryz.prog 22 #[.string ⟨opLacks.toArray⟩, sv0, .slice ao n c] w fun e w' => Fol w o opLacks T sv Er G r e w')
    (U : List (List UInt8)) (hU : ∀ q ∈ r.2.1.L, q ∈ U) (hUl : U.length ≤ 4398046511104) :
    Calls Tryz.prog 10 #[sv0, .slice ao n c] w fun e w' => Lks w o T sv Er G r e w' := by
  have HU := hide (And.intro hU hUl)
  clear hU hUl
  have eo : (⟨opLacks.toArray⟩ : ByteArray) = ⟨#[114, 101, 97, 99, 104, 46, 108, 97, 99, 107, 115]⟩ := rfl
  rw [eo] at hfo
  clear eo
  obtain ⟨r1, s, R⟩ := r
  cases r1 with
  | some i =>
    have hf2 := hfo.mono (fun e w' h => fol_bad h rfl)
    clear hfo
    go_enter Tryz.func10, Tryz.ntmps10
    go_wp2_with (go_at_call 22; refine hf2.mono ?_; rintro e w1 ⟨v, eb, ev, P, x, wb, ub, rfl, g1, g2, g3⟩; have H1 := hide (And.intro g1 (And.intro g2 g3)); clear hf2 g1 g2 g3; unfold faultV)
    go_ret2
    exact .inl ⟨i, eb, ev, P, x, wb, ub, rfl, rfl, H1.out.1, H1.out.2.1, H1.out.2.2⟩
  | none =>
    have hf2 := hfo.mono (fun e w' h => fol_good h rfl)
    clear hfo
    go_enter Tryz.func10, Tryz.ntmps10
    go_upto_region 4 with (go_at_call 22; refine hf2.mono ?_; rintro e w1 ⟨P, x, br, K, rfl, g1, g2, g3, g4⟩; have H1 := hide g4; clear hf2 g1 g2 g3 g4)
    obtain ⟨wb, ub, hz, _, _⟩ := H1.out
    have HZ := hide hz
    obtain ⟨F, V, o9, h1, _⟩ := hz
    have hnd : s.L.length ≤ 4398046511104 := Nat.le_trans (nodup_le (Im.nodup h1.wk.l) HU.out.1) HU.out.2
    have c4 : w1.cell? ⟨P, 4, none⟩ = some (.map (some x.bL)) := h1.wk.cell 4
    have hri := rising_ok x.bL s.L w1 h1.wk.l hnd
    have HS := hide h1.kp.size
    clear h1 hnd
    go_wp2_with (go_at_call 25; refine hri.mono ?_; rintro e w2 ⟨v, R2, rfl, hov, hpm, hup, hk2⟩; have e1 : R2 = canon s.L := canon_of hpm hup (fun _ => Iff.rfl); have H2 := hide (And.intro (e1 ▸ hov) hk2); obtain ⟨ao2, c2, hvv, hcc⟩ := own_shape hov.1; subst hvv; clear hri hov hpm hup hk2 e1 hcc)
    go_ret2
    exact .inr ⟨_, w1, P, x, wb, ub, rfl, rfl, H2.out.1, HS.out, H2.out.2, HZ.out⟩
end

end Go.Proofs.YtngaimahhgmciabGreatDoor
