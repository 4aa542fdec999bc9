import Derived.Test.YtngaimahhgmciabGreatDoorK9tv
import Derived.Test.YtngaimahhgmciabGreatDoorK9nv
namespace Go.Proofs.YtngaimahhgmciabGreatDoor
section
open Go.RowKit Go.Lib Go.Sort
set_option linter.unusedVariables false
set_option linter.unusedSimpArgs false

/-- What is wrong with a need, and at which id. -/
def picks (B R L : List (List UInt8)) : Option (Int × List UInt8) :=
  if B ≠ [] then some (100, (canon B).getD 0 []) else if R ≠ [] then some (101, R.getD 0 []) else if L ≠ [] then some (102, (canon L).getD 0 []) else none
theorem canon_nil {l : List (List UInt8)} (h : l = []) : canon l = [] := by rw [h]; rfl
theorem canon_ne {l : List (List UInt8)} (h : l ≠ []) : canon l ≠ [] := by
  intro e
  cases l with
  | nil => exact h rfl
  | cons a l => have : a ∈ canon (a :: l) := mem_canon.2 (by simp); rw [e] at this; cases this
/-- What Need answers. -/
def Nds (w : World) (o : Nat → Prop) (T : TypeId) (sv : Value) (Er : List UInt8 → World → Value → Prop) (G : List (List UInt8) → (Nat → Prop) → World → Prop) (r : Option (List UInt8) × Ws × List (List UInt8)) (e : Ending) (w' : World) : Prop :=
  (∃ i eb ev P x wb ub, r.1 = some i ∧ e = .returned (.tuple #[.slice none 0 0, faultV eb]) ∧ FltAt w' eb opNeed i ev ∧ Er i w' ev ∧ Wz w o wb ub T sv G P x r.2.1 w') ∨
  (∃ (cd : Int) (i : List UInt8) (eb : Nat) (w1 : World) (P : Nat) (x : Wfd) (wb : World) (ub : Nat → Prop), r.1 = none ∧ picks r.2.1.B r.2.2 r.2.1.L = some (cd, i) ∧ e = .returned (.tuple #[.slice none 0 0, faultV eb]) ∧ FltAt w' eb opNeed i (.iface 38 (.int .i64 cd)) ∧ w.heap.size ≤ eb ∧ i.length = 32 ∧ Kept [] w1 w' ∧ Wz w o wb ub T sv G P x r.2.1 w1) ∨
  (∃ v w1 P x wb ub, r.1 = none ∧ picks r.2.1.B r.2.2 r.2.1.L = none ∧ e = .returned (.tuple #[v, .nilIface]) ∧ OwnI w' w1.heap.size v (canon r.2.1.N) ∧ w.heap.size ≤ w1.heap.size ∧ Kept [] w1 w' ∧ Wz w o wb ub T sv G P x r.2.1 w1)

set_option maxHeartbeats 3200000 in
set_option maxRecDepth 100000 in
theorem need_of {T : TypeId} {sv : Value} {fn : Nat} {rv : Value} {f : List UInt8 → An} {Er : List UInt8 → World → Value → Prop} {G : List (List UInt8) → (Nat → Prop) → World → Prop} {o : Nat → Prop} {w : World} {sv0 : Value} {ao : Option Addr} {n c : Nat} {r : Option (List UInt8) × Ws × List (List UInt8)}
    (hfo : Calls Tryz.prog 22 #[.string ⟨opNeed.toArray⟩, sv0, .slice ao n c] w fun e w' => Fol w o opNeed T sv Er G r e w')
    (U : List (List UInt8)) (hN : ∀ q ∈ r.2.1.N, q ∈ U) (hU : InL U r.2.1) (hR : ∀ q ∈ r.2.2, q ∈ U) (hUl : U.length ≤ 4398046511104) :
    Calls Tryz.prog 9 #[sv0, .slice ao n c] w fun e w' => Nds w o T sv Er G r e w' := by
  have HU := hide (And.intro hN (And.intro hU (And.intro hR hUl)))
  clear hN hU hR hUl
  have eo : (⟨opNeed.toArray⟩ : ByteArray) = ⟨#[114, 101, 97, 99, 104, 46, 110, 101, 101, 100]⟩ := rfl
  rw [eo] at hfo
  obtain ⟨r1, s, R⟩ := r
  cases r1 with
  | some i =>
    have hf2 := hfo.mono (fun e w' h => fol_bad h rfl)
    clear hfo
    go_enter Tryz.func9, Tryz.ntmps9
    go_wp2_with (go_at_call 22; refine hf2.mono ?_; rintro e w1 ⟨v, eb, ev, P, x, wb, ub, rfl, g1, g2, g3⟩; have H1 := hide (And.intro g1 (And.intro g2 g3)); clear hf2 g1 g2 g3; unfold faultV)
    go_ret2
    exact .inl ⟨i, eb, ev, P, x, wb, ub, rfl, rfl, H1.out.1, H1.out.2.1, H1.out.2.2⟩
  | none =>
    have hf2 := hfo.mono (fun e w' h => fol_good h rfl)
    clear hfo
    go_enter Tryz.func9, Tryz.ntmps9
    go_upto_region 4 with (go_at_call 22; refine hf2.mono ?_; rintro e w1 ⟨P, x, br, K, rfl, g1, g2, g3, g4⟩; have H1 := hide (And.intro g4 (And.intro g2 g3)); clear hf2 g1 g2 g3 g4)
    have his := H1.out.1.is
    obtain ⟨wb, ub, hz, _, _⟩ := H1.out.1
    have HZ := hide hz
    obtain ⟨F, V, o9, h1, _⟩ := hz
    have hRK : canon K = R := H1.out.2.2
    have bN : s.N.length ≤ 4398046511104 := Nat.le_trans (nodup_le (Im.nodup h1.wk.n) HU.out.1) HU.out.2.2.2
    have bB : s.B.length ≤ 4398046511104 := Nat.le_trans (nodup_le (Im.nodup h1.wk.b) HU.out.2.1.2) HU.out.2.2.2
    have bL : s.L.length ≤ 4398046511104 := Nat.le_trans (nodup_le (Im.nodup h1.wk.l) HU.out.2.1.1) HU.out.2.2.2
    have bK : K.length ≤ 4398046511104 := Nat.le_trans (nodup_le (Im.nodup his) (fun q hq => HU.out.2.2.1 q (by show q ∈ R; rw [← hRK]; exact mem_canon.2 hq))) HU.out.2.2.2
    have c3 : w1.cell? ⟨P, 3, none⟩ = some (.map (some x.bN)) := h1.wk.cell 3
    have c4 : w1.cell? ⟨P, 4, none⟩ = some (.map (some x.bL)) := h1.wk.cell 4
    have c5 : w1.cell? ⟨P, 5, none⟩ = some (.map (some x.bB)) := h1.wk.cell 5
    have c6 : w1.cell? ⟨P, 6, none⟩ = some (.map (some br)) := by rw [← H1.out.2.1]; exact h1.wk.cell 6
    have hlB := Im.size h1.wk.b Tryz.underlying77 3
    have hlL := Im.size h1.wk.l Tryz.underlying77 3
    have hlD := Im.size his Tryz.underlying77 3
    have HIS := hide his
    have HX := hide h1
    have HRK := hide hRK
    have HBS := hide (And.intro bN (And.intro bB (And.intro bL bK)))
    have HS := hide h1.kp.size
    clear his h1 hRK bN bB bL bK
    obtain ⟨nB, hnB⟩ : ∃ m, s.B.length = m := ⟨_, rfl⟩
    obtain ⟨nL, hnL⟩ : ∃ m, s.L.length = m := ⟨_, rfl⟩
    obtain ⟨nD, hnD⟩ : ∃ m, K.length = m := ⟨_, rfl⟩
    have HNB := hide hnB
    have HNL := hide hnL
    have HND := hide hnD
    rw [hnB] at hlB
    rw [hnL] at hlL
    rw [hnD] at hlD
    clear hnB hnL hnD
    by_cases pB : 0 < nB
    · have HPB : Hid (s.B ≠ []) := hide (List.length_pos_iff.1 (by rw [HNB.out]; exact pB))
      have hle := least_ok x.bB s.B w1 HX.out.wk.b HBS.out.2.1 HPB.out
      obtain ⟨i, hie⟩ : ∃ i, (canon s.B).getD 0 [] = i := ⟨_, rfl⟩
      have HIE := hide hie
      rw [hie] at hle
      clear hie
      go_wp2_with (first
        | refine wpList_lenI rfl 77 (.tmp 21) rfl _ rfl _ _ hlB ?_
        | (go_at_call 24; refine hle.mono ?_; rintro e w2 ⟨rfl, hi, hk2⟩; have hfl := rfault_ok opNeed i hi 38 (.int .i64 100) w2; rw [eo] at hfl; have HK2 := hide hk2; clear hle hk2)
        | (go_at_call 23; refine hfl.mono ?_; rintro e w3 ⟨eb, rfl, hfa, hk3, hne⟩; have H3 := hide (And.intro hfa (And.intro hk3 (Nat.le_trans HS.out (Nat.le_trans HK2.out.size hne)))); clear hfl hfa hk3 hne; unfold faultV))
      go_ret2
      exact .inr (.inl ⟨100, i, eb, w1, P, x, wb, ub, rfl, by show picks s.B R s.L = _; unfold picks; rw [if_pos HPB.out, HIE.out], rfl, H3.out.1, H3.out.2.2, hi, HK2.out.trans H3.out.2.1 (by simp), HZ.out⟩)
    have HPB : Hid (s.B = []) := hide (List.eq_nil_of_length_eq_zero (by rw [HNB.out]; omega))
    have zB : nB = 0 := by omega
    subst zB
    clear pB
    by_cases pD : 0 < nD
    · have HPD : Hid (K ≠ []) := hide (List.length_pos_iff.1 (by rw [HND.out]; exact pD))
      have hle := least_ok br K w1 HIS.out HBS.out.2.2.2 HPD.out
      obtain ⟨i, hie⟩ : ∃ i, (canon K).getD 0 [] = i := ⟨_, rfl⟩
      have HIE := hide hie
      rw [hie] at hle
      clear hie
      go_wp2_with (first
        | refine wpList_lenI rfl 77 (.tmp 21) rfl _ rfl _ _ hlB ?_
        | refine wpList_lenI rfl 77 (.tmp 35) rfl _ rfl _ _ hlD ?_
        | (go_at_call 24; refine hle.mono ?_; rintro e w2 ⟨rfl, hi, hk2⟩; have hfl := rfault_ok opNeed i hi 38 (.int .i64 101) w2; rw [eo] at hfl; have HK2 := hide hk2; clear hle hk2)
        | (go_at_call 23; refine hfl.mono ?_; rintro e w3 ⟨eb, rfl, hfa, hk3, hne⟩; have H3 := hide (And.intro hfa (And.intro hk3 (Nat.le_trans HS.out (Nat.le_trans HK2.out.size hne)))); clear hfl hfa hk3 hne; unfold faultV))
      go_ret2
      exact .inr (.inl ⟨101, i, eb, w1, P, x, wb, ub, rfl, by show picks s.B R s.L = _; unfold picks; rw [if_neg (by simp [HPB.out]), if_pos (by rw [← HRK.out]; exact canon_ne HPD.out), ← HRK.out, HIE.out], rfl, H3.out.1, H3.out.2.2, hi, HK2.out.trans H3.out.2.1 (by simp), HZ.out⟩)
    have HPD : Hid (K = []) := hide (List.eq_nil_of_length_eq_zero (by rw [HND.out]; omega))
    have zD : nD = 0 := by omega
    subst zD
    clear pD
    by_cases pL : 0 < nL
    · have HPL : Hid (s.L ≠ []) := hide (List.length_pos_iff.1 (by rw [HNL.out]; exact pL))
      have hle := least_ok x.bL s.L w1 HX.out.wk.l HBS.out.2.2.1 HPL.out
      obtain ⟨i, hie⟩ : ∃ i, (canon s.L).getD 0 [] = i := ⟨_, rfl⟩
      have HIE := hide hie
      rw [hie] at hle
      clear hie
      go_wp2_with (first
        | refine wpList_lenI rfl 77 (.tmp 21) rfl _ rfl _ _ hlB ?_
        | refine wpList_lenI rfl 77 (.tmp 35) rfl _ rfl _ _ hlD ?_
        | refine wpList_lenI rfl 77 (.tmp 49) rfl _ rfl _ _ hlL ?_
        | (go_at_call 24; refine hle.mono ?_; rintro e w2 ⟨rfl, hi, hk2⟩; have hfl := rfault_ok opNeed i hi 38 (.int .i64 102) w2; rw [eo] at hfl; have HK2 := hide hk2; clear hle hk2)
        | (go_at_call 23; refine hfl.mono ?_; rintro e w3 ⟨eb, rfl, hfa, hk3, hne⟩; have H3 := hide (And.intro hfa (And.intro hk3 (Nat.le_trans HS.out (Nat.le_trans HK2.out.size hne)))); clear hfl hfa hk3 hne; unfold faultV))
      go_ret2
      exact .inr (.inl ⟨102, i, eb, w1, P, x, wb, ub, rfl, by show picks s.B R s.L = _; unfold picks; rw [if_neg (by simp [HPB.out]), if_neg (by rw [← HRK.out, canon_nil HPD.out]; simp), if_pos HPL.out, HIE.out], rfl, H3.out.1, H3.out.2.2, hi, HK2.out.trans H3.out.2.1 (by simp), HZ.out⟩)
    have HPL : Hid (s.L = []) := hide (List.eq_nil_of_length_eq_zero (by rw [HNL.out]; omega))
    have zL : nL = 0 := by omega
    subst zL
    clear pL
    have hri := rising_ok x.bN s.N w1 HX.out.wk.n HBS.out.1
    go_wp2_with (first
        | refine wpList_lenI rfl 77 (.tmp 21) rfl _ rfl _ _ hlB ?_
        | refine wpList_lenI rfl 77 (.tmp 35) rfl _ rfl _ _ hlD ?_
        | refine wpList_lenI rfl 77 (.tmp 49) rfl _ rfl _ _ hlL ?_
        | (go_at_call 25; refine hri.mono ?_; rintro e w2 ⟨v, R2, rfl, hov, hpm, hup, hk2⟩; have e1 : R2 = canon s.N := canon_of hpm hup (fun _ => Iff.rfl); have H2 := hide (And.intro (e1 ▸ hov) hk2); obtain ⟨ao2, c2, hvv, hcc⟩ := own_shape hov.1; subst hvv; clear hri hov hpm hup hk2 e1 hcc))
    go_ret2
    exact .inr (.inr ⟨_, w1, P, x, wb, ub, rfl, by show picks s.B R s.L = _; rw [← HRK.out, HPB.out, HPL.out, canon_nil HPD.out]; rfl, rfl, H2.out.1, HS.out, H2.out.2, HZ.out⟩)
end

section
open Go.RowKit Go.Lib Go.Sort
set_option linter.unusedVariables false
set_option linter.unusedSimpArgs false

/-- What an id names. -/
def idsF (f : List UInt8 → An) (q : List UInt8) : List (List UInt8) := match f q with
  | .data xs => match Tn.parse xs with
    | some E => E.map (·.id)
    | none => []
  | _ => []
def fldsF (f : List UInt8 → An) (q : List UInt8) : List (List UInt8) := match f q with
  | .data xs => match Tn.parse xs with
    | some E => fldsE E
    | none => []
  | _ => []
def badF (f : List UInt8 → An) (q : List UInt8) : Prop := match f q with
  | .data xs => Tn.parse xs = none
  | _ => False
theorem flds_ids {f : List UInt8 → An} {p q : List UInt8} (h : q ∈ fldsF f p) : q ∈ idsF f p := by
  unfold fldsF at h
  unfold idsF
  cases hf : f p with
  | fail => rw [hf] at h; simp at h
  | lack => rw [hf] at h; simp at h
  | data xs =>
    rw [hf] at h
    cases hp : Tn.parse xs with
    | none => simp only [hp] at h; simp at h
    | some E =>
      simp only [hp] at h ⊢
      unfold fldsE at h
      obtain ⟨e, he, rfl⟩ := List.mem_map.1 h
      exact List.mem_map.2 ⟨e, (List.mem_filter.1 he).1, rfl⟩
end

section
open Go.RowKit Go.Lib Go.Sort
set_option linter.unusedVariables false
set_option linter.unusedSimpArgs false

/-- The ids of a round. -/
def lev (f : List UInt8 → An) (roots : List (List UInt8)) : Nat → List UInt8 → Prop
  | 0, q => q ∈ roots
  | k + 1, q => ∃ p, lev f roots k p ∧ q ∈ fldsF f p
/-- It is opened as a tree. -/
def opn (f : List UInt8 → An) (roots : List (List UInt8)) (q : List UInt8) : Prop := ∃ j, j < 6 ∧ lev f roots j q
/-- It is needed. -/
def nd (f : List UInt8 → An) (roots : List (List UInt8)) (q : List UInt8) : Prop := q ∈ roots ∨ ∃ p, opn f roots p ∧ q ∈ idsF f p
theorem nd_lev {f : List UInt8 → An} {roots : List (List UInt8)} : ∀ {k : Nat} {q : List UInt8}, k ≤ 6 → lev f roots k q → nd f roots q
  | 0, q, _, h => .inl h
  | k + 1, q, hk, ⟨p, h1, h2⟩ => .inr ⟨p, ⟨k, by omega, h1⟩, flds_ids h2⟩
theorem nd_opn {f : List UInt8 → An} {roots : List (List UInt8)} {q : List UInt8} (h : opn f roots q) : nd f roots q := by
  obtain ⟨j, hj, h⟩ := h
  exact nd_lev (by omega) h

/-- What a walk has found out ahead of a round, where no source fails; D: what was opened. -/
structure Sm (f : List UInt8 → An) (roots : List (List UInt8)) (D : List UInt8 → Prop) (s : Ws) : Prop where
  A : ∀ q, q ∈ s.A ↔ D q
  N : ∀ q, q ∈ s.N ↔ q ∈ roots ∨ ∃ p, D p ∧ q ∈ idsF f p
  B : ∀ q, q ∈ s.B ↔ D q ∧ badF f q
  L : ∀ q, q ∈ s.L ↔ D q ∧ f q = .lack
  fl : ∀ q, D q → s.fl q = fldsF f q
  nf : ∀ q, ¬ D q → s.fl q = []

theorem Sm.tree {f : List UInt8 → An} (hf : ∀ i, f i ≠ .fail) {roots : List (List UInt8)} {D : List UInt8 → Prop} {s : Ws} (h : Sm f roots D s) (i : List UInt8) :
    (s.tree f i).1 = true ∧ Sm f roots (fun q => D q ∨ q = i) (s.tree f i).2 := by
  unfold Ws.tree
  by_cases ha : i ∈ s.A
  · rw [if_pos ha]
    have hd : D i := (h.A i).1 ha
    have e : (fun q => D q ∨ q = i) = D := by
      funext q
      exact propext ⟨fun h => h.elim id (fun e => e ▸ hd), .inl⟩
    rw [e]
    exact ⟨rfl, h⟩
  · rw [if_neg ha]
    have hnd : ¬ D i := fun hd => ha ((h.A i).2 hd)
    cases hfi : f i with
    | fail => exact absurd hfi (hf i)
    | lack =>
      have hids : idsF f i = [] := by unfold idsF; rw [hfi]
      have hfl : fldsF f i = [] := by unfold fldsF; rw [hfi]
      have hb : ¬ badF f i := by unfold badF; rw [hfi]; exact id
      refine ⟨rfl, ⟨fun q => ?_, fun q => ?_, fun q => ?_, fun q => ?_, fun q hq => ?_, fun q hq => ?_⟩⟩
      · show q ∈ insI s.A i ↔ _
        rw [mem_insI, h.A q]
      · show q ∈ s.N ↔ _
        rw [h.N q]
        constructor
        · rintro (h1 | ⟨p, h1, h2⟩)
          · exact .inl h1
          · exact .inr ⟨p, .inl h1, h2⟩
        · rintro (h1 | ⟨p, h1 | rfl, h2⟩)
          · exact .inl h1
          · exact .inr ⟨p, h1, h2⟩
          · rw [hids] at h2; simp at h2
      · show q ∈ s.B ↔ _
        rw [h.B q]
        constructor
        · rintro ⟨h1, h2⟩; exact ⟨.inl h1, h2⟩
        · rintro ⟨h1 | rfl, h2⟩
          · exact ⟨h1, h2⟩
          · exact absurd h2 hb
      · show q ∈ insI s.L i ↔ _
        rw [mem_insI, h.L q]
        constructor
        · rintro (⟨h1, h2⟩ | rfl)
          · exact ⟨.inl h1, h2⟩
          · exact ⟨.inr rfl, hfi⟩
        · rintro ⟨h1 | rfl, h2⟩
          · exact .inl ⟨h1, h2⟩
          · exact .inr rfl
      · show s.fl q = _
        rcases hq with hq | rfl
        · exact h.fl q hq
        · rw [h.nf q hnd, hfl]
      · exact h.nf q (fun hd => hq (.inl hd))
    | data xs =>
      have hA : ∀ o, ((s.asked i).readE i o).A = insI s.A i := fun o => by cases o <;> rfl
      have hL : ∀ o, ((s.asked i).readE i o).L = s.L := fun o => by cases o <;> rfl
      have hl : ¬ f i = .lack := by rw [hfi]; simp
      refine ⟨rfl, ?_⟩
      show Sm f roots (fun q => D q ∨ q = i) ((s.asked i).readE i (Tn.parse xs))
      cases hp : Tn.parse xs with
      | none =>
        have hids : idsF f i = [] := by unfold idsF; rw [hfi]; simp only [hp]
        have hfl : fldsF f i = [] := by unfold fldsF; rw [hfi]; simp only [hp]
        have hb : badF f i := by unfold badF; rw [hfi]; exact hp
        refine ⟨fun q => ?_, fun q => ?_, fun q => ?_, fun q => ?_, fun q hq => ?_, fun q hq => ?_⟩
        · rw [hA, mem_insI, h.A q]
        · show q ∈ s.N ↔ _
          rw [h.N q]
          constructor
          · rintro (h1 | ⟨p, h1, h2⟩)
            · exact .inl h1
            · exact .inr ⟨p, .inl h1, h2⟩
          · rintro (h1 | ⟨p, h1 | rfl, h2⟩)
            · exact .inl h1
            · exact .inr ⟨p, h1, h2⟩
            · rw [hids] at h2; simp at h2
        · show q ∈ insI s.B i ↔ _
          rw [mem_insI, h.B q]
          constructor
          · rintro (⟨h1, h2⟩ | rfl)
            · exact ⟨.inl h1, h2⟩
            · exact ⟨.inr rfl, hb⟩
          · rintro ⟨h1 | rfl, h2⟩
            · exact .inl ⟨h1, h2⟩
            · exact .inr rfl
        · rw [hL, h.L q]
          constructor
          · rintro ⟨h1, h2⟩; exact ⟨.inl h1, h2⟩
          · rintro ⟨h1 | rfl, h2⟩
            · exact ⟨h1, h2⟩
            · exact absurd h2 hl
        · show s.fl q = _
          rcases hq with hq | rfl
          · exact h.fl q hq
          · rw [h.nf q hnd, hfl]
        · exact h.nf q (fun hd => hq (.inl hd))
      | some E =>
        have hids : idsF f i = E.map (·.id) := by unfold idsF; rw [hfi]; simp only [hp]
        have hfl : fldsF f i = fldsE E := by unfold fldsF; rw [hfi]; simp only [hp]
        have hb : ¬ badF f i := by unfold badF; rw [hfi]; simp only [hp]; simp
        refine ⟨fun q => ?_, fun q => ?_, fun q => ?_, fun q => ?_, fun q hq => ?_, fun q hq => ?_⟩
        · rw [hA, mem_insI, h.A q]
        · show q ∈ insA s.N (E.map (·.id)) ↔ _
          rw [mem_insA, h.N q, ← hids]
          constructor
          · rintro ((h1 | ⟨p, h1, h2⟩) | h1)
            · exact .inl h1
            · exact .inr ⟨p, .inl h1, h2⟩
            · exact .inr ⟨i, .inr rfl, h1⟩
          · rintro (h1 | ⟨p, h1 | rfl, h2⟩)
            · exact .inl (.inl h1)
            · exact .inl (.inr ⟨p, h1, h2⟩)
            · exact .inr h2
        · show q ∈ s.B ↔ _
          rw [h.B q]
          constructor
          · rintro ⟨h1, h2⟩; exact ⟨.inl h1, h2⟩
          · rintro ⟨h1 | rfl, h2⟩
            · exact ⟨h1, h2⟩
            · exact absurd h2 hb
        · rw [hL, h.L q]
          constructor
          · rintro ⟨h1, h2⟩; exact ⟨.inl h1, h2⟩
          · rintro ⟨h1 | rfl, h2⟩
            · exact ⟨h1, h2⟩
            · exact absurd h2 hl
        · show (if q = i then fldsE E else s.fl q) = _
          by_cases e : q = i
          · rw [if_pos e, e, hfl]
          · rw [if_neg e]
            exact h.fl q (hq.elim id (fun h => absurd h e))
        · show (if q = i then fldsE E else s.fl q) = _
          rw [if_neg (fun e => hq (.inr e))]
          exact h.nf q (fun hd => hq (.inl hd))
theorem Sm.cong {f : List UInt8 → An} {roots : List (List UInt8)} {D D' : List UInt8 → Prop} {s : Ws} (h : Sm f roots D s) (e : ∀ q, D q ↔ D' q) : Sm f roots D' s := by
  have : D = D' := funext fun q => propext (e q)
  rw [← this]; exact h
theorem Sm.trees {f : List UInt8 → An} (hf : ∀ i, f i ≠ .fail) {roots : List (List UInt8)} : ∀ (l : List (List UInt8)) {D : List UInt8 → Prop} {s : Ws}, Sm f roots D s →
    (Ws.trees f s l).1 = none ∧ Sm f roots (fun q => D q ∨ q ∈ l) (Ws.trees f s l).2
  | [], D, s, h => ⟨rfl, h.cong (fun q => by simp)⟩
  | i :: l, D, s, h => by
    obtain ⟨h1, h2⟩ := h.tree hf i
    have e : Ws.trees f s (i :: l) = Ws.trees f (s.tree f i).2 l := by simp only [Ws.trees]; rw [if_pos h1]
    rw [e]
    obtain ⟨h3, h4⟩ := Sm.trees hf l h2
    exact ⟨h3, h4.cong (fun q => by simp [or_assoc])⟩
theorem Sm.rounds {f : List UInt8 → An} (hf : ∀ i, f i ≠ .fail) {roots : List (List UInt8)} : ∀ (n k : Nat) {s : Ws} {R : List (List UInt8)}, Sm f roots (fun q => ∃ j, j < k ∧ lev f roots j q) s → Up R → (∀ q, q ∈ R ↔ lev f roots k q) →
    (Ws.rounds f n s R).1 = none ∧ Sm f roots (fun q => ∃ j, j < k + n ∧ lev f roots j q) (Ws.rounds f n s R).2.1 ∧ Up (Ws.rounds f n s R).2.2 ∧ (∀ q, q ∈ (Ws.rounds f n s R).2.2 ↔ lev f roots (k + n) q)
  | 0, k, s, R, h, hu, hR => ⟨rfl, h, hu, hR⟩
  | n + 1, k, s, R, h, hu, hR => by
    obtain ⟨h1, h2⟩ := h.trees hf R
    rcases hT : Ws.trees f s R with ⟨o, s'⟩
    rw [hT] at h1 h2
    simp only at h1 h2
    subst h1
    rw [rounds_none hT]
    have hd : ∀ q, lev f roots k q → s'.fl q = fldsF f q := fun q hq => h2.fl q (.inr ((hR q).2 hq))
    have h3 := Sm.rounds hf n (k + 1) (s := s') (R := canon (R.flatMap s'.fl)) (h2.cong (fun q => by
      rw [hR q]
      constructor
      · rintro (⟨j, hj, h⟩ | h)
        · exact ⟨j, by omega, h⟩
        · exact ⟨k, by omega, h⟩
      · rintro ⟨j, hj, hl⟩
        by_cases e : j = k
        · exact .inr (e ▸ hl)
        · exact .inl ⟨j, by omega, hl⟩)) (up_canon _) (fun q => by
      rw [mem_canon, List.mem_flatMap]
      constructor
      · rintro ⟨p, h3, h4⟩
        have h5 := (hR p).1 h3
        rw [hd p h5] at h4
        exact ⟨p, h5, h4⟩
      · rintro ⟨p, h3, h4⟩
        exact ⟨p, (hR p).2 h3, by rw [hd p h3]; exact h4⟩)
    rw [show k + 1 + n = k + (n + 1) by omega] at h3
    exact h3
theorem others_sem {f : List UInt8 → An} (hf : ∀ i, f i ≠ .fail) : ∀ (l : List (List UInt8)) (s : Ws),
    (Ws.others f s l).1 = none ∧ (∀ q, q ∈ (Ws.others f s l).2.L ↔ q ∈ s.L ∨ (q ∈ l ∧ q ∉ s.A ∧ f q = .lack)) ∧ (Ws.others f s l).2.N = s.N ∧ (Ws.others f s l).2.B = s.B
  | [], s => ⟨rfl, fun q => by simp [Ws.others], rfl, rfl⟩
  | i :: l, s => by
    by_cases ha : i ∈ s.A
    · have e1 : s.other f i = (true, s) := by unfold Ws.other; rw [if_pos ha]
      have e : Ws.others f s (i :: l) = Ws.others f s l := by simp only [Ws.others]; rw [e1]; rfl
      rw [e]
      obtain ⟨h1, h2, h3, h4⟩ := others_sem hf l s
      refine ⟨h1, fun q => ?_, h3, h4⟩
      rw [h2 q]
      constructor
      · rintro (h | ⟨h, h'⟩)
        · exact .inl h
        · exact .inr ⟨by simp [h], h'⟩
      · rintro (h | ⟨h, h', h''⟩)
        · exact .inl h
        · rcases List.mem_cons.1 h with rfl | h
          · exact absurd ha h'
          · exact .inr ⟨h, h', h''⟩
    · cases hfi : f i with
      | fail => exact absurd hfi (hf i)
      | lack =>
        have e1 : s.other f i = (true, { s.asked i with L := insI s.L i }) := by unfold Ws.other; rw [if_neg ha, hfi]
        have e : Ws.others f s (i :: l) = Ws.others f { s.asked i with L := insI s.L i } l := by simp only [Ws.others]; rw [e1]; rfl
        rw [e]
        obtain ⟨h1, h2, h3, h4⟩ := others_sem hf l { s.asked i with L := insI s.L i }
        refine ⟨h1, fun q => ?_, h3, h4⟩
        rw [h2 q]
        show q ∈ insI s.L i ∨ (q ∈ l ∧ q ∉ insI s.A i ∧ f q = .lack) ↔ _
        rw [mem_insI, mem_insI, List.mem_cons]
        constructor
        · rintro ((h | rfl) | ⟨h, h', h''⟩)
          · exact .inl h
          · exact .inr ⟨.inl rfl, ha, hfi⟩
          · exact .inr ⟨.inr h, fun hx => h' (.inl hx), h''⟩
        · rintro (h | ⟨h, h', h''⟩)
          · exact .inl (.inl h)
          · by_cases e : q = i
            · exact .inl (.inr e)
            · exact .inr ⟨h.resolve_left e, fun hx => hx.elim h' e, h''⟩
      | data xs =>
        have e1 : s.other f i = (true, s.asked i) := by unfold Ws.other; rw [if_neg ha, hfi]
        have e : Ws.others f s (i :: l) = Ws.others f (s.asked i) l := by simp only [Ws.others]; rw [e1]; rfl
        rw [e]
        obtain ⟨h1, h2, h3, h4⟩ := others_sem hf l (s.asked i)
        refine ⟨h1, fun q => ?_, h3, h4⟩
        rw [h2 q]
        show q ∈ s.L ∨ (q ∈ l ∧ q ∉ insI s.A i ∧ f q = .lack) ↔ _
        rw [mem_insI, List.mem_cons]
        constructor
        · rintro (h | ⟨h, h', h''⟩)
          · exact .inl h
          · exact .inr ⟨.inr h, fun hx => h' (.inl hx), h''⟩
        · rintro (h | ⟨h, h', h''⟩)
          · exact .inl h
          · by_cases e : q = i
            · rw [e, hfi] at h''; cases h''
            · exact .inr ⟨h.resolve_left e, fun hx => hx.elim h' e, h''⟩

/-- What a walk tells, where no source fails. -/
structure Tls (f : List UInt8 → An) (roots : List (List UInt8)) (r : Option (List UInt8) × Ws × List (List UInt8)) : Prop where
  ok : r.1 = none
  N : ∀ q, q ∈ r.2.1.N ↔ nd f roots q
  B : ∀ q, q ∈ r.2.1.B ↔ opn f roots q ∧ badF f q
  L : ∀ q, q ∈ r.2.1.L ↔ nd f roots q ∧ f q = .lack
  R : ∀ q, q ∈ r.2.2 ↔ lev f roots 6 q
  up : Up r.2.2
theorem walk_sem {f : List UInt8 → An} (hf : ∀ i, f i ≠ .fail) (ord roots : List (List UInt8)) : Tls f roots (walkW f ord roots) := by
  have h0 : Sm f roots (fun q => ∃ j, j < 0 ∧ lev f roots j q) ⟨ord, [], insA [] roots, [], [], fun _ => []⟩ :=
    ⟨fun q => ⟨fun h => by simp at h, fun ⟨j, hj, _⟩ => absurd hj (Nat.not_lt_zero j)⟩,
     fun q => by
      show q ∈ insA [] roots ↔ _
      rw [mem_insA]
      constructor
      · rintro (h | h)
        · simp at h
        · exact .inl h
      · rintro (h | ⟨p, ⟨j, hj, _⟩, _⟩)
        · exact .inr h
        · exact absurd hj (Nat.not_lt_zero j),
     fun q => ⟨fun h => by simp at h, fun ⟨⟨j, hj, _⟩, _⟩ => absurd hj (Nat.not_lt_zero j)⟩,
     fun q => ⟨fun h => by simp at h, fun ⟨⟨j, hj, _⟩, _⟩ => absurd hj (Nat.not_lt_zero j)⟩,
     fun q ⟨j, hj, _⟩ => absurd hj (Nat.not_lt_zero j),
     fun q _ => rfl⟩
  obtain ⟨g1, g2, g3, g4⟩ := Sm.rounds hf 6 0 h0 (up_canon roots) (fun q => mem_canon)
  rcases hr : Ws.rounds f 6 ⟨ord, [], insA [] roots, [], [], fun _ => []⟩ (canon roots) with ⟨o, s, R⟩
  rw [hr] at g1 g2 g3 g4
  simp only at g1 g2 g3 g4
  subst g1
  rw [walkW_none hr]
  obtain ⟨h1, h2, h3, h4⟩ := others_sem hf (canon s.N) s
  have hN : ∀ q, q ∈ s.N ↔ nd f roots q := fun q => by
    rw [g2.N q]
    exact ⟨fun h => h.elim .inl (fun ⟨p, ⟨j, hj, h⟩, h'⟩ => .inr ⟨p, ⟨j, by omega, h⟩, h'⟩), fun h => h.elim .inl (fun ⟨p, ⟨j, hj, h⟩, h'⟩ => .inr ⟨p, ⟨j, by omega, h⟩, h'⟩)⟩
  have hA : ∀ q, q ∈ s.A ↔ opn f roots q := fun q => by
    rw [g2.A q]
    exact ⟨fun ⟨j, hj, h⟩ => ⟨j, by omega, h⟩, fun ⟨j, hj, h⟩ => ⟨j, by omega, h⟩⟩
  refine ⟨h1, fun q => ?_, fun q => ?_, fun q => ?_, g4, g3⟩
  · show q ∈ (Ws.others f s (canon s.N)).2.N ↔ _
    rw [h3]; exact hN q
  · show q ∈ (Ws.others f s (canon s.N)).2.B ↔ _
    rw [h4, g2.B q, ← g2.A q, hA q]
  · show q ∈ (Ws.others f s (canon s.N)).2.L ↔ _
    rw [h2 q, mem_canon, hN q, hA q, g2.L q, ← g2.A q, hA q]
    constructor
    · rintro (⟨h, h'⟩ | ⟨h, _, h'⟩)
      · exact ⟨nd_opn h, h'⟩
      · exact ⟨h, h'⟩
    · rintro ⟨h, h'⟩
      by_cases e : opn f roots q
      · exact .inl ⟨e, h'⟩
      · exact .inr ⟨h, e, h'⟩

/-- What Need says is wrong. -/
def wrong (f : List UInt8 → An) (roots : List (List UInt8)) : Option (Int × List UInt8) := picks (walkW f [] roots).2.1.B (walkW f [] roots).2.2 (walkW f [] roots).2.1.L
/-- The need is whole. -/
structure Whl9 (f : List UInt8 → An) (roots : List (List UInt8)) : Prop where
  good : ∀ q, opn f roots q → ¬ badF f q
  flat : ∀ q, ¬ lev f roots 6 q
  there : ∀ q, nd f roots q → f q ≠ .lack
theorem nil_iff {l : List (List UInt8)} : l = [] ↔ ∀ q, q ∉ l := by
  constructor
  · rintro rfl q h; simp at h
  · intro h
    cases l with
    | nil => rfl
    | cons a l => exact absurd (by simp) (h a)
theorem picks_none {B R L : List (List UInt8)} : picks B R L = none ↔ B = [] ∧ R = [] ∧ L = [] := by
  unfold picks
  by_cases hB : B = [] <;> by_cases hR : R = [] <;> by_cases hL : L = [] <;> simp [hB, hR, hL]
theorem whl_iff {f : List UInt8 → An} {roots : List (List UInt8)} {r : Option (List UInt8) × Ws × List (List UInt8)} (h : Tls f roots r) : picks r.2.1.B r.2.2 r.2.1.L = none ↔ Whl9 f roots := by
  rw [picks_none, nil_iff, nil_iff, nil_iff]
  constructor
  · rintro ⟨h1, h2, h3⟩
    exact ⟨fun q hq hb => h1 q ((h.B q).2 ⟨hq, hb⟩), fun q hq => h2 q ((h.R q).2 hq), fun q hq hb => h3 q ((h.L q).2 ⟨hq, hb⟩)⟩
  · rintro ⟨h1, h2, h3⟩
    exact ⟨fun q hq => h1 q ((h.B q).1 hq).1 ((h.B q).1 hq).2, fun q hq => h2 q ((h.R q).1 hq), fun q hq => h3 q ((h.L q).1 hq).1 ((h.L q).1 hq).2⟩

section
variable {f : List UInt8 → An} {r1 r2 : List (List UInt8)}
/-- Roots that are the same ids. -/
theorem lev_cong (h : ∀ q, q ∈ r1 ↔ q ∈ r2) : ∀ (k : Nat) (q : List UInt8), lev f r1 k q ↔ lev f r2 k q
  | 0, q => h q
  | k + 1, q => ⟨fun ⟨p, h1, h2⟩ => ⟨p, (lev_cong h k p).1 h1, h2⟩, fun ⟨p, h1, h2⟩ => ⟨p, (lev_cong h k p).2 h1, h2⟩⟩
theorem opn_cong (h : ∀ q, q ∈ r1 ↔ q ∈ r2) (q : List UInt8) : opn f r1 q ↔ opn f r2 q :=
  ⟨fun ⟨j, hj, h1⟩ => ⟨j, hj, (lev_cong h j q).1 h1⟩, fun ⟨j, hj, h1⟩ => ⟨j, hj, (lev_cong h j q).2 h1⟩⟩
theorem nd_cong (h : ∀ q, q ∈ r1 ↔ q ∈ r2) (q : List UInt8) : nd f r1 q ↔ nd f r2 q := by
  unfold nd
  rw [h q]
  exact or_congr Iff.rfl ⟨fun ⟨p, h1, h2⟩ => ⟨p, (opn_cong h p).1 h1, h2⟩, fun ⟨p, h1, h2⟩ => ⟨p, (opn_cong h p).2 h1, h2⟩⟩
theorem canon_cong {a b : List (List UInt8)} (h : ∀ q, q ∈ a ↔ q ∈ b) : canon a = canon b := up_uniq (up_canon _) (up_canon _) (fun q => by rw [mem_canon, mem_canon, h q])
theorem picks_cong {B R L B' R' L' : List (List UInt8)} (hB : ∀ q, q ∈ B ↔ q ∈ B') (hR : R = R') (hL : ∀ q, q ∈ L ↔ q ∈ L') : picks B R L = picks B' R' L' := by
  have e1 : B = [] ↔ B' = [] := by rw [nil_iff, nil_iff]; exact forall_congr' fun q => not_congr (hB q)
  have e2 : L = [] ↔ L' = [] := by rw [nil_iff, nil_iff]; exact forall_congr' fun q => not_congr (hL q)
  unfold picks
  rw [canon_cong hB, canon_cong hL, hR]
  simp only [ne_eq, e1, e2]
/-- Orders, doubles: nothing. -/
theorem tls_cong {r r' : Option (List UInt8) × Ws × List (List UInt8)} (h : ∀ q, q ∈ r1 ↔ q ∈ r2) (h1 : Tls f r1 r) (h2 : Tls f r2 r') :
    canon r.2.1.N = canon r'.2.1.N ∧ canon r.2.1.L = canon r'.2.1.L ∧ picks r.2.1.B r.2.2 r.2.1.L = picks r'.2.1.B r'.2.2 r'.2.1.L := by
  have hL : ∀ q, q ∈ r.2.1.L ↔ q ∈ r'.2.1.L := fun q => by rw [h1.L q, h2.L q, nd_cong h q]
  refine ⟨canon_cong (fun q => by rw [h1.N q, h2.N q, nd_cong h q]), canon_cong hL, picks_cong (fun q => by rw [h1.B q, h2.B q, opn_cong h q]) (up_uniq h1.up h2.up (fun q => by rw [h1.R q, h2.R q, lev_cong h 6 q])) hL⟩
/-- The need of all. -/
theorem lev_app : ∀ (k : Nat) (q : List UInt8), lev f (r1 ++ r2) k q ↔ lev f r1 k q ∨ lev f r2 k q
  | 0, q => List.mem_append
  | k + 1, q => by
    constructor
    · rintro ⟨p, h1, h2⟩
      rcases (lev_app k p).1 h1 with h | h
      · exact .inl ⟨p, h, h2⟩
      · exact .inr ⟨p, h, h2⟩
    · rintro (⟨p, h1, h2⟩ | ⟨p, h1, h2⟩)
      · exact ⟨p, (lev_app k p).2 (.inl h1), h2⟩
      · exact ⟨p, (lev_app k p).2 (.inr h1), h2⟩
theorem opn_app (q : List UInt8) : opn f (r1 ++ r2) q ↔ opn f r1 q ∨ opn f r2 q := by
  constructor
  · rintro ⟨j, hj, h⟩
    rcases (lev_app j q).1 h with h | h
    · exact .inl ⟨j, hj, h⟩
    · exact .inr ⟨j, hj, h⟩
  · rintro (⟨j, hj, h⟩ | ⟨j, hj, h⟩)
    · exact ⟨j, hj, (lev_app j q).2 (.inl h)⟩
    · exact ⟨j, hj, (lev_app j q).2 (.inr h)⟩
theorem nd_app (q : List UInt8) : nd f (r1 ++ r2) q ↔ nd f r1 q ∨ nd f r2 q := by
  unfold nd
  rw [List.mem_append]
  constructor
  · rintro ((h | h) | ⟨p, h1, h2⟩)
    · exact .inl (.inl h)
    · exact .inr (.inl h)
    · rcases (opn_app p).1 h1 with h | h
      · exact .inl (.inr ⟨p, h, h2⟩)
      · exact .inr (.inr ⟨p, h, h2⟩)
  · rintro ((h | ⟨p, h1, h2⟩) | (h | ⟨p, h1, h2⟩))
    · exact .inl (.inl h)
    · exact .inr ⟨p, (opn_app p).2 (.inl h1), h2⟩
    · exact .inl (.inr h)
    · exact .inr ⟨p, (opn_app p).2 (.inr h1), h2⟩
theorem whl_app : Whl9 f (r1 ++ r2) ↔ Whl9 f r1 ∧ Whl9 f r2 := by
  constructor
  · rintro ⟨h1, h2, h3⟩
    exact ⟨⟨fun q hq => h1 q ((opn_app q).2 (.inl hq)), fun q hq => h2 q ((lev_app 6 q).2 (.inl hq)), fun q hq => h3 q ((nd_app q).2 (.inl hq))⟩, ⟨fun q hq => h1 q ((opn_app q).2 (.inr hq)), fun q hq => h2 q ((lev_app 6 q).2 (.inr hq)), fun q hq => h3 q ((nd_app q).2 (.inr hq))⟩⟩
  · rintro ⟨⟨h1, h2, h3⟩, ⟨k1, k2, k3⟩⟩
    exact ⟨fun q hq => ((opn_app q).1 hq).elim (h1 q) (k1 q), fun q hq => ((lev_app 6 q).1 hq).elim (h2 q) (k2 q), fun q hq => ((nd_app q).1 hq).elim (h3 q) (k3 q)⟩
end
end

end Go.Proofs.YtngaimahhgmciabGreatDoor
