import Derived.Test.YtngaimahhgmciaaGreatDoorQsls
namespace Go.Proofs.YtngaimahhgmciaaGreatDoor
section
open Go.RowKit Go.Lib Go.Sort
set_option linter.unusedVariables false
set_option linter.unusedSimpArgs false
theorem picks_neA {B R L : List (List UInt8)} {cd : Int} {i : List UInt8} (h : picks B R L = some (cd, i)) : cd ≠ 1 := by
 rcases picks_cases h with (rfl | rfl) | ⟨rfl, _⟩ <;> decide
theorem picks_neB {B R L : List (List UInt8)} {cd : Int} {i : List UInt8} (h : picks B R L = some (cd, i)) : (cd != 0) = true := by
 rcases picks_cases h with (rfl | rfl) | ⟨rfl, _⟩ <;> rfl
def codP (L : List It9) : List Int := (ids9 L).map (fun q => (fst9 L q).code)
theorem srP {w w' : World} {L : List It9} {vi vd vc : Value} (h : Src9 w w' L vi vd vc) : Sr9 w' vi vd vc (ids9 L) (dat9 L (ids9 L)) (codP L) := by
 have hi := h.ids
 have hd := h.dat
 have hc := h.cod
 obtain ⟨aI, cI, eI, _⟩ := own_shape hi.1
 obtain ⟨aD, cD, eD, _⟩ := own_shape hd
 obtain ⟨aC, cC, eC, _⟩ := own_shape hc
 have lD : (dat9 L (ids9 L)).length = (ids9 L).length := by unfold dat9; rw [List.length_map]
 have lC : (cod9 L (ids9 L)).length = (ids9 L).length := by unfold cod9; rw [List.length_map]
 subst eI
 subst eD
 subst eC
 refine ⟨⟨aI, cI, rfl, hi.ids.1⟩, ⟨aD, cD, by rw [lD], fun k hk => ?_⟩, ⟨aC, cC, by rw [lC], fun k hk => ?_⟩⟩
 ·obtain ⟨g, o, e1, e2, _⟩ := own_at9 hd k (by rw [lD]; exact hk)
  exact ⟨g, o, e1, e2⟩
 ·obtain ⟨g, o, e1, e2, _⟩ := own_at9 hc k (by rw [lC]; exact hk)
  refine ⟨g, o, e1, ?_⟩
  rw [e2]
  have e3 : (cod9 L (ids9 L)).getD k unitv = .int .i64 (fst9 L (ids9 L)[k]).code := by
   unfold cod9
   rw [List.getD_eq_getElem?_getD, List.getElem?_map, List.getElem?_eq_getElem hk]
   rfl
  have e4 : (codP L).getD k 0 = (fst9 L (ids9 L)[k]).code := by
   unfold codP
   rw [List.getD_eq_getElem?_getD, List.getElem?_map, List.getElem?_eq_getElem hk]
   rfl
  rw [e3, e4]
theorem fndP_in {L : List It9} {q : List UInt8} (h : q ∈ ids9 L) : fnd9 (ids9 L) (dat9 L (ids9 L)) (codP L) q = if (fst9 L q).code = 0 then (.slice (fst9 L q).ao (fst9 L q).n (fst9 L q).cap, 0) else (.slice none 0 0, (fst9 L q).code) := by
 obtain ⟨k, hk⟩ : ∃ k, (ids9 L).findIdx? (· == q) = some k := by
  cases hf : (ids9 L).findIdx? (· == q) with
  | some k => exact ⟨k, rfl⟩
  | none =>
   rw [List.findIdx?_eq_none_iff] at hf
   have := hf q h
   simp at this
 obtain ⟨hkl, hkq, _⟩ := List.findIdx?_eq_some_iff_getElem.1 hk
 have hkq : (ids9 L)[k] = q := by simpa using hkq
 unfold fnd9
 rw [hk]
 simp only
 have hc : (codP L).getD k 0 = (fst9 L q).code := by
  unfold codP
  rw [List.getD_eq_getElem?_getD, List.getElem?_map, List.getElem?_eq_getElem hkl, hkq]
  rfl
 have hd : (dat9 L (ids9 L)).getD k unitv = (fst9 L q).dv := by
  unfold dat9
  rw [List.getD_eq_getElem?_getD, List.getElem?_map, List.getElem?_eq_getElem hkl, hkq]
  rfl
 rw [hc, hd]
 rfl
theorem fndP_out {L : List It9} {q : List UInt8} (h : q ∉ ids9 L) : fnd9 (ids9 L) (dat9 L (ids9 L)) (codP L) q = (.slice none 0 0, 93) := by
 have hf : (ids9 L).findIdx? (· == q) = none := by
  rw [List.findIdx?_eq_none_iff]
  intro p hp
  simp only [beq_eq_false_iff_ne]
  rintro rfl
  exact h hp
 unfold fnd9
 rw [hf]
theorem fndP {w : World} {ao : Option Addr} {L : List It9} (h : ItsAt w ao L) : Fnd9 w (ids9 L) (dat9 L (ids9 L)) (codP L) (itF L) (fun i => (fst9 L i).code) where
 data i xs hi := by
  unfold itF at hi
  by_cases hin : i ∈ ids9 L
  ·rw [if_pos hin] at hi
   by_cases h0 : (fst9 L i).code = 0
   ·rw [if_pos h0] at hi
    injection hi with hi
    subst hi
    obtain ⟨z, hz, h1, _⟩ := fst9_in hin
    have hib := (h z hz).2.inb
    rw [← h1] at hib
    exact ⟨_, _, by rw [fndP_in hin, if_pos h0, hib.len], by rw [hib.len]; exact hib.le, by rw [hib.len]; have := hib.le; have := hib.max; omega, hib.sl⟩
   ·rw [if_neg h0] at hi
    by_cases h9 : (fst9 L i).code = 93 ∨ (fst9 L i).code = 94
    ·rw [if_pos h9] at hi; cases hi
    ·rw [if_neg h9] at hi; cases hi
  ·rw [if_neg hin] at hi; cases hi
 lack i hi := by
  by_cases hin : i ∈ ids9 L
  ·unfold itF at hi
   rw [if_pos hin] at hi
   by_cases h0 : (fst9 L i).code = 0
   ·rw [if_pos h0] at hi; cases hi
   ·rw [if_neg h0] at hi
    by_cases h9 : (fst9 L i).code = 93 ∨ (fst9 L i).code = 94
    ·rw [fndP_in hin, if_neg h0]; exact h9
    ·rw [if_neg h9] at hi; cases hi
  ·rw [fndP_out hin]; exact .inl rfl
 fail i hi := by
  unfold itF at hi
  by_cases hin : i ∈ ids9 L
  ·rw [if_pos hin] at hi
   by_cases h0 : (fst9 L i).code = 0
   ·rw [if_pos h0] at hi; cases hi
   ·rw [if_neg h0] at hi
    by_cases h9 : (fst9 L i).code = 93 ∨ (fst9 L i).code = 94
    ·rw [if_pos h9] at hi; cases hi
    ·rw [fndP_in hin, if_neg h0]
     exact ⟨rfl, h0, fun h => h9 (.inl h), fun h => h9 (.inr h)⟩
  ·rw [if_neg hin] at hi; cases hi
theorem ref_walk (f : List UInt8 → An) (roots : List (List UInt8)) :
  (refW f roots).1 = (walkW f [] roots).1 ∧ (refW f roots).2.1.asked = (walkW f [] roots).2.1.ord ∧
  ((walkW f [] roots).1 = none → (refW f roots).2.1.need = canon (walkW f [] roots).2.1.N ∧ (refW f roots).2.1.lacks = canon (walkW f [] roots).2.1.L ∧ pk9 (refW f roots) = picks (walkW f [] roots).2.1.B (walkW f [] roots).2.2 (walkW f [] roots).2.1.L) := by
 obtain ⟨h1, h2, h3⟩ := walk_ref f roots
 refine ⟨h1, h2, fun hn => ?_⟩
 obtain ⟨a1, a2, a3, a4⟩ := h3 hn
 refine ⟨a1, a3, ?_⟩
 unfold pk9 picks
 rw [a2, a3, a4]
 have e : ∀ {B : List (List UInt8)}, (canon B ≠ []) ↔ (B ≠ []) := fun {B} => ⟨fun h e => h (canon_nil e), canon_ne⟩
 simp only [e]
end

section
open Go.RowKit Go.Lib Go.Sort
set_option linter.unusedVariables false
set_option linter.unusedSimpArgs false
theorem Rss.preS {w : World} {ao : Option Addr} {R S : List Rz} (h : Rss w ao (R ++ S)) : Rss w ao R := fun k hk => by
  obtain ⟨b, off, e, h1⟩ := h k (by rw [List.length_append]; omega)
  refine ⟨b, off, e, ?_⟩
  have e2 : (R ++ S).getD k rz0 = R.getD k rz0 := by rw [List.getD_eq_getElem?_getD, List.getD_eq_getElem?_getD, List.getElem?_append_left hk]
  rw [e2] at h1
  exact h1
set_option maxRecDepth 100000 in
theorem Tryz.buildSo9 (io : Option Addr) (n cap : Nat) (W : World) : (Instr.build 73 #[(0, .slice io n cap)]).run Tryz.prog W = .ok (.agg #[.slice io n cap, .slice none 0 0, .nilIface]) W := by kernel_rfl
theorem soat_new {w0 w : World} (hst : Kept [] w0 w) (io : Option Addr) (n cap : Nat) : SoAt w0 (w.alloc (.cells #[.slice io n cap, .slice none 0 0, .nilIface] 73)) w.heap.size io n cap (.slice none 0 0) .nilIface [] where
  row := new_atK _ _
  a := ⟨World.ownsRow_nil _ _ _ _, fun i hi => by simp at hi⟩
  st := fun b hb => by rw [((Kept.refl [] w).alloc _).block b (Nat.lt_of_lt_of_le hb hst.size) (by simp), hst.block b hb (by simp)]
  far := hst.size
theorem ErrA.chn {w : World} {L : List It9} {i : List UInt8} {ev : Value} (h : ErrA w L i ev) (hi : i.length = 32) (hf : itF L i = .fail) : ((fst9 L i).code = 1 ∧ ev = foreV) ∨ ((fst9 L i).code ≠ 1 ∧ ∃ k, Chn w k ev (errnoV (fst9 L i).code)) := by
  rcases h with ⟨h0, _⟩ | ⟨h0, h1 | ⟨h1, h2, ⟨_, eb, h3, h4⟩ | ⟨_, h3⟩⟩⟩
  · unfold itF at hf; rw [if_neg h0] at hf; cases hf
  · exact .inl h1
  · exact .inr ⟨h1, 1, eb, _, h3, h4.err hi, rfl⟩
  · exact .inr ⟨h1, 0, h3⟩
theorem isErrA_ok (eb : Nat) (op : List UInt8) (L : List It9) (i : List UInt8) (ve : Value) (w : World) (h : FltAt w eb op i ve) (hop : op ≠ opG) (hi : i.length = 32) (he : ErrA w L i ve) :
    Calls Tryz.prog 32 #[.iface 59 (.pointer (some ⟨eb, 0, none⟩)), ve] w fun e w' => e = .returned (.bool true) ∧ Kept [] w w' := by
  have hc := h.err hi
  have hnum : ∀ c, ve = errnoV c → Calls Tryz.prog 32 #[.iface 59 (.pointer (some ⟨eb, 0, none⟩)), ve] w fun e w' => e = .returned (.bool true) ∧ Kept [] w w' := by
    rintro c rfl
    refine (isErrno_ok 1 (faultV eb) c c w ⟨eb, _, rfl, hc, rfl⟩).mono ?_
    rintro e w' ⟨rfl, hw⟩
    obtain rfl := hw
    exact ⟨by simp, Kept.refl _ _⟩
  rcases he with ⟨_, e1⟩ | ⟨_, ⟨_, e1⟩ | ⟨_, _, ⟨_, e2, e1, h4⟩ | ⟨_, e1⟩⟩⟩
  · exact hnum _ e1
  · subst e1
    refine (isFor_ok eb w hc).mono ?_
    rintro e w' ⟨rfl, hw⟩
    obtain rfl := hw
    exact ⟨rfl, Kept.refl _ _⟩
  · subst e1
    have hne : e2 ≠ eb := by
      rintro rfl
      unfold FltAt at h h4
      rw [h] at h4
      injection h4 with h4
      injection h4 with h4 _ _
      injection h4 with h4
      unfold fltC at h4
      simp at h4
      exact hop h4.1
    refine (isFlt_ok eb e2 hne w h h4 hc).mono ?_
    rintro e w' ⟨rfl, hw⟩
    obtain rfl := hw
    exact ⟨rfl, Kept.refl _ _⟩
  · exact hnum _ e1
def CasNeed (w2 w4 : World) (B2 B4 : Nat) (L : List It9) (roots : List (List UInt8)) (ve v ev vD : Value) (cdW cd : Int) (i : List UInt8) : Prop :=
  (∃ eb, v = .slice none 0 0 ∧ ev = faultV eb ∧ FltAt w2 eb opNeed i ve ∧ ErrA w2 L i ve ∧ i.length = 32 ∧ cd = (fst9 L i).code ∧ cdW = cd ∧ cd ≠ 0 ∧ itF L i = .fail) ∨
  (∃ eb, v = .slice none 0 0 ∧ ev = faultV eb ∧ FltAt w2 eb opNeed i (.iface 57 (.int .i64 cd)) ∧ i.length = 32 ∧ cdW = 0 ∧ cd ≠ 1 ∧ (cd != 0) = true) ∨
  (ev = .nilIface ∧ OwnI w2 B2 v (canon (walkW (itF L) [] roots).2.1.N) ∧ OwnI w4 B4 vD (canon (walkW (itF L) [] roots).2.1.N) ∧ cd = 0 ∧ i.length = 32)
theorem cas_need {w2 w4 : World} {B2 B4 : Nat} {L : List It9} {roots : List (List UInt8)} {ve v ev vD : Value} {cdW cd : Int} {i : List UInt8} (hi : i.length = 32)
    (h : (∃ i eb, (walkW (itF L) [] roots).1 = some i ∧ (Value.tuple #[v, ev]) = (.tuple #[.slice none 0 0, faultV eb]) ∧ FltAt w2 eb opNeed i ve ∧ ErrA w2 L i ve) ∨
     (∃ cd i eb, (walkW (itF L) [] roots).1 = none ∧ picks (walkW (itF L) [] roots).2.1.B (walkW (itF L) [] roots).2.2 (walkW (itF L) [] roots).2.1.L = some (cd, i) ∧ (Value.tuple #[v, ev]) = (.tuple #[.slice none 0 0, faultV eb]) ∧ FltAt w2 eb opNeed i (.iface 57 (.int .i64 cd)) ∧ i.length = 32) ∨
     (∃ u, (walkW (itF L) [] roots).1 = none ∧ picks (walkW (itF L) [] roots).2.1.B (walkW (itF L) [] roots).2.2 (walkW (itF L) [] roots).2.1.L = none ∧ (Value.tuple #[v, ev]) = (.tuple #[u, .nilIface]) ∧ OwnI w2 B2 u (canon (walkW (itF L) [] roots).2.1.N)))
    (hr : ((refW (itF L) roots).1 = none ∧ cdW = 0) ∨ ∃ i, (refW (itF L) roots).1 = some i ∧ cdW = (fst9 L i).code ∧ itF L i = .fail) (hfc : ∀ i, itF L i = .fail → (fst9 L i).code ≠ 0)
    (hn : NdE9 w4 B4 (fun i => (fst9 L i).code) (refW (itF L) roots) vD cd i) : CasNeed w2 w4 B2 B4 L roots ve v ev vD cdW cd i := by
  obtain ⟨r1, _, r3⟩ := ref_walk (itF L) roots
  have inj : ∀ {a b : Value}, (Value.tuple #[v, ev]) = (.tuple #[a, b]) → v = a ∧ ev = b := fun h => by injection h with h; simpa using h
  rcases h with ⟨j, eb, h1, h2, h3, h4⟩ | ⟨c, j, eb, h1, h2, h3, h4, h5⟩ | ⟨u, h1, h2, h3, h4⟩
  · obtain ⟨rfl, rfl⟩ := inj h2
    rw [h1] at r1
    rcases hn with ⟨q, q1, q2, q3, q4⟩ | ⟨_, _, q1, _⟩ | ⟨q1, _⟩
    · rw [r1] at q1
      injection q1 with q1
      subst q1
      subst q4
      rcases hr with ⟨a1, _⟩ | ⟨p, a1, a2, a3⟩
      · rw [r1] at a1; cases a1
      · rw [r1] at a1
        injection a1 with a1
        subst a1
        exact .inl ⟨eb, rfl, rfl, h3, h4, hi, q3, by rw [a2, q3], by rw [q3]; exact hfc _ a3, a3⟩
    · rw [r1] at q1; cases q1
    · rw [r1] at q1; cases q1
  · obtain ⟨rfl, rfl⟩ := inj h3
    obtain ⟨_, _, r5⟩ := r3 h1
    rw [h1] at r1
    rw [h2] at r5
    rcases hn with ⟨q, q1, _⟩ | ⟨c9, q, q1, q2, q3, q4, q5⟩ | ⟨q1, q2, _⟩
    · rw [r1] at q1; cases q1
    · rw [r5] at q2
      injection q2 with q2
      injection q2 with e1 e2
      subst e1
      subst e2
      subst q4
      subst q5
      rcases hr with ⟨_, a1⟩ | ⟨p, a1, _⟩
      · exact .inr (.inl ⟨eb, rfl, rfl, h4, h5, a1, picks_neA h2, picks_neB h2⟩)
      · rw [r1] at a1; cases a1
    · rw [r5] at q2; cases q2
  · obtain ⟨rfl, rfl⟩ := inj h3
    obtain ⟨r4, _, r5⟩ := r3 h1
    rw [h1] at r1
    rw [h2] at r5
    rcases hn with ⟨q, q1, _⟩ | ⟨c9, q, q1, q2, _⟩ | ⟨q1, q2, q3, q4, q5⟩
    · rw [r1] at q1; cases q1
    · rw [r5] at q2; cases q2
    · rw [r4] at q3
      exact .inr (.inr ⟨rfl, h4, q3, q4, hi⟩)
theorem NdS.tupS {w0 w w' : World} {P n cap : Nat} {io : Option Addr} {L : List It9} {roots : List (List UInt8)} {e : Ending} (h : NdS w0 P io n cap L roots w e w') :
    ∃ va ve v ev, e = .returned (.tuple #[v, ev]) ∧ Kept [P] w w' ∧ GlE w' ∧ Tabs w' ∧ SoAt w0 w' P io n cap va ve (walkW (itF L) [] roots).2.1.ord ∧
    ((∃ i eb, (walkW (itF L) [] roots).1 = some i ∧ (Value.tuple #[v, ev]) = (.tuple #[.slice none 0 0, faultV eb]) ∧ FltAt w' eb opNeed i ve ∧ ErrA w' L i ve) ∨
     (∃ cd i eb, (walkW (itF L) [] roots).1 = none ∧ picks (walkW (itF L) [] roots).2.1.B (walkW (itF L) [] roots).2.2 (walkW (itF L) [] roots).2.1.L = some (cd, i) ∧ (Value.tuple #[v, ev]) = (.tuple #[.slice none 0 0, faultV eb]) ∧ FltAt w' eb opNeed i (.iface 57 (.int .i64 cd)) ∧ i.length = 32) ∨
     (∃ u, (walkW (itF L) [] roots).1 = none ∧ picks (walkW (itF L) [] roots).2.1.B (walkW (itF L) [] roots).2.2 (walkW (itF L) [] roots).2.1.L = none ∧ (Value.tuple #[v, ev]) = (.tuple #[u, .nilIface]) ∧ OwnI w' w.heap.size u (canon (walkW (itF L) [] roots).2.1.N))) := by
  obtain ⟨h1, h2, h3, va, ve, h4, h5⟩ := h
  rcases h5 with ⟨i, eb, a1, a2, a3, a4⟩ | ⟨cd, i, eb, a1, a2, a3, a4, a5⟩ | ⟨u, a1, a2, a3, a4⟩
  · exact ⟨va, ve, _, _, a2, h1, h2, h3, h4, .inl ⟨i, eb, a1, rfl, a3, a4⟩⟩
  · exact ⟨va, ve, _, _, a3, h1, h2, h3, h4, .inr (.inl ⟨cd, i, eb, a1, a2, rfl, a4, a5⟩)⟩
  · exact ⟨va, ve, _, _, a3, h1, h2, h3, h4, .inr (.inr ⟨u, a1, a2, rfl, a4⟩)⟩
set_option maxHeartbeats 12800000 in
set_option maxRecDepth 100000 in
theorem needed9_ok (io : Option Addr) (in_ ic : Nat) (L : List It9) (g : Nat) (bo : Option Addr) (m cb : Nat) (R : List Rz) (w0 w : World) (hI : InI w0 io in_ ic L) (htop : 4 ≤ w0.heap.size) (hst : Kept [] w0 w) (gl : GlE w) (tabs : Tabs w) (hrl : R.length = m) (hL : Rm9 w g (m + 40) (R ++ marks 40)) (hR : Rss w bo R) (hm : m ≤ 1954687338211) :
    Calls Tryz.prog 11 #[.slice io in_ ic, .slice (some ⟨g, 0, none⟩) m (m + 40), .slice bo m cb] w fun e w' => e = .returned (.bool true) ∧ Kept [] w w' := by
  obtain ⟨P, hP⟩ : ∃ r, r = w.heap.size := ⟨_, rfl⟩
  obtain ⟨w1, hw1⟩ : ∃ r, r = w.alloc (.cells #[.slice io in_ ic, .slice none 0 0, .nilIface] 73) := ⟨_, rfl⟩
  have hk1 : Kept [] w w1 := by rw [hw1]; exact (Kept.refl [] w).alloc _
  have hso := soat_new hst io in_ ic
  rw [← hP, ← hw1] at hso
  have hg1 : g < w1.heap.size := by
    obtain ⟨⟨cur, h1, _⟩, _⟩ := hL
    exact Nat.lt_of_lt_of_le (Array.getElem?_eq_some_iff.1 h1).1 hk1.size
  have hin : in_ ≤ 4611686018427387904 := by have := hI.le; have := hI.max; omega
  have hnd := sneed9_ok hso htop hI.its hI.len hin (gl.kept hk1) (tabs.kept hk1 (by simp)) (some ⟨g, 0, none⟩) m (m + 40) R hrl ((hL.kept hk1 (by simp)).rss.preS) (by omega) (fun _ a ha => by injection ha with ha; subst ha; exact hg1)
  have hbs := fun W => Tryz.buildSo9 io in_ ic W
  have HIT := hide hI
  have HST := hide hst
  have HL := hide hL
  have HR := hide hR
  have HRL := hide hrl
  have HK01 := hide hk1
  have HPW : Hid (P = w.heap.size ∧ P < w1.heap.size) := hide ⟨hP, hso.lt⟩
  clear hI htop hst gl tabs hrl hL hR hk1 hso hg1
  go_enter Tryz.func11, Tryz.ntmps11
  go_upto_region 2 with (refine wpList_buildRun9 rfl 73 #[(0, .tmp 14)] rfl #[(0, .slice io in_ ic)] (by simp [Act.eval]) _ (hbs _) ?_)
  clear hbs
  rw [← hP, ← hw1]
  clear hP hw1
  go_upto_region 3 with (go_at_call 19; refine hnd.mono ?_; rintro e w2 h; obtain ⟨va, ve, v, ev, rfl, hk2, hg2, ht2, hs2, hc2⟩ := h.tupS; have HK12 := hide hk2; have HG2 := hide hg2; have HT2 := hide ht2; have HS2 := hide hs2; have HC2 := hide hc2; clear hnd h hk2 hg2 ht2 hs2 hc2)
  have HK02 : Hid (Kept [] w w2) := hide (HK01.out.trans HK12.out (fun b hb hlt => by simp only [List.mem_singleton] at hb; have := HPW.out; omega))
  have HIT2 := hide ((HIT.out.kept HST.out).kept HK02.out)
  have hp1 := plain9b_ok io in_ ic L w2 HIT2.out.its HIT2.out.len hin
  go_upto_region 4 with (first
    | (go_at_call 14; refine hp1.mono ?_; rintro e w2b ⟨vi, vd, vc, rfl, hs⟩; have HSA := hide hs; have hR2 := HR.out.kept (HK02.out.trans hs.kp (by simp)) (fun _ _ _ => by simp); have hro := rounds9_ok (srP hs) (fndP (HIT2.out.kept hs.kp).its) bo m cb R HRL.out hR2 (Nat.le_trans (ids9_len L) (by decide)) (U := R.map (·.root) ++ idsL L) (fun q hq => List.mem_append_left _ hq) (fun i xs E h1 h2 e he => List.mem_append_right _ (idsL_in i xs E h1 h2 e he)) (by have h1 := idsL_len L; have h3 := HRL.out; rw [List.length_append, List.length_map]; omega) (by omega); clear hp1 hs hR2)
    | (go_at_call 30; refine hro.mono ?_; rintro e w3 ⟨gW, rfl, hr9, hk3⟩; have HRO := hide hr9; have HK3a := hide hk3; clear hro hr9 hk3))
  have HK23 := hide (HSA.out.kp.trans HK3a.out (by simp))
  have HK03 := hide (HK02.out.trans HK23.out (by simp))
  obtain ⟨vaW, vn9, vb9, vd9, vl9, dp9, cdW, ci9, hwk, hcw9⟩ := HRO.out
  have HWK := hide hwk
  have HCW := hide hcw9
  clear hwk hcw9 HRO HSA
  have hp1 := plain9b_ok io in_ ic L w3 (HIT2.out.kept HK23.out).its HIT2.out.len hin
  have hzid := Tryz.zeroId
  go_upto_region 5 with (first
    | (go_at_call 14; refine hp1.mono ?_; rintro e w3b ⟨vi, vd, vc, rfl, hs⟩; have HSA := hide hs; have hR2 := HR.out.kept (HK03.out.trans hs.kp (by simp)) (fun _ _ _ => by simp); have hro := rneed9_ok (srP hs) (fndP ((HIT2.out.kept HK23.out).kept hs.kp).its) bo m cb R HRL.out hR2 (Nat.le_trans (ids9_len L) (by decide)) (U := R.map (·.root) ++ idsL L) (fun q hq => List.mem_append_left _ hq) (fun i xs E h1 h2 e he => List.mem_append_right _ (idsL_in i xs E h1 h2 e he)) (by have h1 := idsL_len L; have h3 := HRL.out; rw [List.length_append, List.length_map]; omega) (by omega); clear hp1 hs hR2)
    | (go_at_call 21; refine hro.mono ?_; rintro e w4 ⟨vD, cd, i, rfl, hk4, hil, hnd9⟩; have HNE := hide hnd9; have HIL := hide hil; have HK4a := hide hk4; have hnz := new_atK w4 (.cells zeroI 25); clear hro hnd9 hk4 hil)
    | refine wpList_store_rowTo rfl 25 (.tmp 13) (.tmp 35) rfl rfl w4.heap.size (bys i).toArray rfl rfl 25 zeroI hnz (by rw [List.size_toArray]; exact idl _ HIL.out) (by simp [zeroI, bys_length, HIL.out]) (bys_allT _) ?_)
  have HRN : Hid (((w4.alloc (.cells zeroI 25)).setRow w4.heap.size (bys i).toArray).heap[w4.heap.size]? = some (.cells (bys i).toArray 25 (0, 0))) := hide (setRow_heap _ _ _ _ _ _ hnz)
  have HK45 : Hid (Kept [] w4 ((w4.alloc (.cells zeroI 25)).setRow w4.heap.size (bys i).toArray)) := hide (kept_rowK ((Kept.refl [] w4).alloc _) (fun h => absurd h (Nat.lt_irrefl _)) _)
  clear hnz hzid
  generalize (w4.alloc (.cells zeroI 25)).setRow w4.heap.size (bys i).toArray = w5 at HRN HK45 ⊢
  obtain ⟨tI, htI⟩ : ∃ r, w4.heap.size = r := ⟨_, rfl⟩
  rw [htI] at HRN ⊢
  clear htI
  have HK35 := hide ((HSA.out.kp.trans HK4a.out (by simp)).trans HK45.out (by simp))
  have HK25 := hide (HK23.out.trans HK35.out (by simp))
  have HK05 := hide (HK02.out.trans HK25.out (by simp))
  have HCA : Hid (CasNeed w2 w4 w1.heap.size w3b.heap.size L (R.map (·.root)) ve v ev vD cdW cd i) := hide (cas_need HIL.out HC2.out (by
      rcases HCW.out with ⟨h1, h2, _⟩ | ⟨j, h1, h2, _, h4⟩
      · exact .inl ⟨h1, h2⟩
      · exact .inr ⟨j, h1, h2, h4⟩) (fun j hj => ((fndP HIT2.out.its).fail j hj).2.1) HNE.out)
  have hs5 := HS2.out.kept HK25.out
  have hwk5 := HWK.out.kept HK35.out
  obtain ⟨aA, cA, e1, _⟩ := own_shape hs5.a.1
  obtain ⟨aB, cB, e2, _⟩ := own_shape hwk5.a.1
  have e3 := (ref_walk (itF L) (R.map (·.root))).2.1
  have haB := hwk5.a
  rw [e3] at e2 haB
  obtain ⟨nA, hnA⟩ : ∃ n, (walkW (itF L) [] (R.map (·.root))).2.1.ord.length = n := ⟨_, rfl⟩
  rw [hnA] at e1 e2
  have HC3 : Hid (w5.cell? ⟨gW, 5, none⟩ = some (.int .i64 cdW)) := hide hwk5.cc
  have HC4 : Hid (w5.cell? ⟨P, 2, none⟩ = some ve) := hide (by rw [cell_of_row _ _ _ _ _ _ hs5.row]; rfl)
  have c1 : w5.cell? ⟨P, 1, none⟩ = some va := by rw [cell_of_row _ _ _ _ _ _ hs5.row]; rfl
  have c2 : w5.cell? ⟨gW, 0, none⟩ = some vaW := hwk5.ca
  rw [e1] at c1
  rw [e2] at c2 haB
  have haA := hs5.a
  rw [e1] at haA
  have HAA := hide (And.intro haA haB)
  have HNA := hide hnA
  have hsm : ∀ W, Kept [] w5 W → Calls Tryz.prog 23 #[.slice aA nA cA, .slice aB nA cB] W (fun e w' => e = .returned (.bool true) ∧ Kept [] W w') := fun W hW => by
    have h := same9_ok aA aB nA nA cA cB _ _ W HNA.out HNA.out ((HAA.out.1.kept hW (by simp)).ids.1) ((HAA.out.2.kept hW (by simp)).ids.1) (own_max9 HAA.out.1) (own_max9 HAA.out.2)
    rw [decide_eq_true rfl] at h
    exact h
  have hwh : ∀ W, Kept [] w5 W → Calls Tryz.prog 31 #[.slice (some ⟨g, 0, none⟩) m (m + 40), .slice bo m cb] W (fun e w' => e = .returned (.bool true) ∧ Kept [] W w') := fun W hW =>
    whole9_ok g m bo cb R W HRL.out (HL.out.kept (HK05.out.trans hW (by simp)) (by simp)) (HR.out.kept (HK05.out.trans hW (by simp)) (fun _ _ _ => by simp)) (by omega)
  clear hs5 hwk5 e1 e2 e3 haA haB hnA
  refine wp_region_held_drew (S := fun w' => Kept [] w5 w') (by kernel_rfl) ((Kept.refl [] w5).drew) (fun h0 => ?_)
  generalize World.drew w5 = v0 at h0  ⊢
  refine wpAnyH_take (i := 0) (v := .pointer (some ⟨P, 0, none⟩)) rfl (by kernel_rfl) (by kernel_rfl) (by kernel_rfl) (fun _ _ _ h => h) (Or.inl ⟨by rfl, fun w hSw => by go_simp⟩) h0 ?_
  try simp only [zk1, zk2, zk3, zk4, zk5, zk6, zk7, zk8]
  refine wpAnyH_take (i := 1) (v := .pointer (some ⟨P, 0, none⟩)) rfl (by kernel_rfl) (by kernel_rfl) (by kernel_rfl) (fun _ _ _ h => h) (Or.inl ⟨by rfl, fun w hSw => by go_simp⟩) h0 ?_
  try simp only [zk1, zk2, zk3, zk4, zk5, zk6, zk7, zk8]
  refine wpAnyH_take (i := 2) (v := .pointer (some ⟨P, 1, none⟩)) rfl (by kernel_rfl) (by kernel_rfl) (by kernel_rfl) (fun _ _ _ h => h) (Or.inl ⟨by rfl, fun w hSw => by go_simp⟩) h0 ?_
  try simp only [zk1, zk2, zk3, zk4, zk5, zk6, zk7, zk8]
  refine wpAnyH_take (i := 3) (v := .slice aA nA cA) rfl (by kernel_rfl) (by kernel_rfl) (by kernel_rfl) (fun _ _ _ h => h) (Or.inl ⟨by rfl, fun w hSw => by have c0 := Kept.cellOf hSw c1 (by simp); go_simp⟩) h0 ?_
  try simp only [zk1, zk2, zk3, zk4, zk5, zk6, zk7, zk8]
  refine wpAnyH_take (i := 4) (v := .pointer (some ⟨gW, 0, none⟩)) rfl (by kernel_rfl) (by kernel_rfl) (by kernel_rfl) (fun _ _ _ h => h) (Or.inl ⟨by rfl, fun w hSw => by go_simp⟩) h0 ?_
  try simp only [zk1, zk2, zk3, zk4, zk5, zk6, zk7, zk8]
  refine wpAnyH_take (i := 5) (v := .pointer (some ⟨gW, 0, none⟩)) rfl (by kernel_rfl) (by kernel_rfl) (by kernel_rfl) (fun _ _ _ h => h) (Or.inl ⟨by rfl, fun w hSw => by go_simp⟩) h0 ?_
  try simp only [zk1, zk2, zk3, zk4, zk5, zk6, zk7, zk8]
  refine wpAnyH_take (i := 6) (v := .pointer (some ⟨gW, 0, none⟩)) rfl (by kernel_rfl) (by kernel_rfl) (by kernel_rfl) (fun _ _ _ h => h) (Or.inl ⟨by rfl, fun w hSw => by go_simp⟩) h0 ?_
  try simp only [zk1, zk2, zk3, zk4, zk5, zk6, zk7, zk8]
  refine wpAnyH_take (i := 7) (v := .slice aB nA cB) rfl (by kernel_rfl) (by kernel_rfl) (by kernel_rfl) (fun _ _ _ h => h) (Or.inl ⟨by rfl, fun w hSw => by have c0 := Kept.cellOf hSw c2 (by simp); go_simp⟩) h0 ?_
  try simp only [zk1, zk2, zk3, zk4, zk5, zk6, zk7, zk8]
  refine wpAnyH_ready (rs := [8]) (by kernel_rfl) (by simp) (AllReadyH.cons (i := 8) rfl (fun K hK => ?_) AllReadyH.nil)
  rw [if_pos (by rfl)]
  go_simp
  refine (hsm v0 h0).mono ?_
  rintro e v1 ⟨rfl, hk⟩
  refine hK.out _ _ (Kept.trans h0 hk (by simp)) (fun h1 => ?_)
  clear hK K
  try simp only [zk1, zk2, zk3, zk4, zk5, zk6, zk7, zk8]
  clear hk
  refine wpAnyH_take (i := 9) (v := .bool false) rfl (by kernel_rfl) (by kernel_rfl) (by kernel_rfl) (fun _ _ _ h => h) (Or.inl ⟨by rfl, fun w hSw => by go_simp⟩) h1 ?_
  try simp only [zk1, zk2, zk3, zk4, zk5, zk6, zk7, zk8]
  refine wpAnyH_take (i := 10) (v := .bool false) rfl (by kernel_rfl) (by kernel_rfl) (by kernel_rfl) (fun _ _ _ h => h) (Or.inl ⟨by rfl, fun w hSw => by go_simp⟩) h1 ?_
  try simp only [zk1, zk2, zk3, zk4, zk5, zk6, zk7, zk8]
  refine wpAnyH_take (i := 11) (v := .slice (some ⟨g, 0, none⟩) m (m + 40)) rfl (by kernel_rfl) (by kernel_rfl) (by kernel_rfl) (fun _ _ _ h => h) (Or.inl ⟨by rfl, fun w hSw => by go_simp⟩) h1 ?_
  try simp only [zk1, zk2, zk3, zk4, zk5, zk6, zk7, zk8]
  refine wpAnyH_take (i := 12) (v := .slice bo m cb) rfl (by kernel_rfl) (by kernel_rfl) (by kernel_rfl) (fun _ _ _ h => h) (Or.inl ⟨by rfl, fun w hSw => by go_simp⟩) h1 ?_
  try simp only [zk1, zk2, zk3, zk4, zk5, zk6, zk7, zk8]
  refine wpAnyH_ready (rs := [13]) (by kernel_rfl) (by simp) (AllReadyH.cons (i := 13) rfl (fun K hK => ?_) AllReadyH.nil)
  rw [if_pos (by rfl)]
  go_simp
  refine (hwh v1 h1).mono ?_
  rintro e v2 ⟨rfl, hk⟩
  refine hK.out _ _ (Kept.trans h1 hk (by simp)) (fun h2 => ?_)
  clear hK K
  try simp only [zk1, zk2, zk3, zk4, zk5, zk6, zk7, zk8]
  clear hk
  refine wpAnyH_take (i := 14) (v := .bool false) rfl (by kernel_rfl) (by kernel_rfl) (by kernel_rfl) (fun _ _ _ h => h) (Or.inl ⟨by rfl, fun w hSw => by go_simp⟩) h2 ?_
  try simp only [zk1, zk2, zk3, zk4, zk5, zk6, zk7, zk8]
  refine wpAnyH_take (i := 15) (v := .bool false) rfl (by kernel_rfl) (by kernel_rfl) (by kernel_rfl) (fun _ _ _ h => h) (Or.inl ⟨by rfl, fun w hSw => by go_simp⟩) h2 ?_
  try simp only [zk1, zk2, zk3, zk4, zk5, zk6, zk7, zk8]
  refine wpAnyH_done (by kernel_rfl) ?_ _
  have HK56 := hide h2
  clear c1 c2 hsm hwh h0 h1 h2
  obtain ⟨w6, rfl⟩ : ∃ r, r = v2 := ⟨_, rfl⟩
  have HC3 := hide (HK56.out.cellOf HC3.out (by simp))
  have HC4 := hide (HK56.out.cellOf HC4.out (by simp))
  have HRI : Hid (w6.heap[tI]? = some (.cells (bys i).toArray 25 (0, 0))) := hide (by
    rw [HK56.out.block tI (Array.getElem?_eq_some_iff.1 HRN.out).1 (by simp)]; exact HRN.out)
  have HK26 := hide (HK25.out.trans HK56.out (by simp))
  have HK46 := hide (HK45.out.trans HK56.out (by simp))
  have HK06 := hide (HK05.out.trans HK56.out (by simp))
  clear HS2 HWK HC2 HCW HNE HRN HAA HNA HIT2 HIT HST HL HR HRL HSA HK4a HK45 HK35 HK25 HK05 HK23 HK03 HK3a HK12 HK01 HK02 HK56 HPW HIL hin hm
  go_upto_region 7 with (fail)
  rcases HCA.out with ⟨eb, rfl, rfl, hf7, hea, hil, hcd, hcw, hc0, hfl⟩ | ⟨eb, rfl, rfl, hf7, hil, hcw, hne1, hcn⟩ | ⟨rfl, ho2, ho4, rfl, hil⟩
  · as_aux_lemma =>
    clear HCA
    unfold faultV
    have HF7 := hide hf7
    have HEA := hide hea
    have HFL := hide hfl
    clear hf7 hea hfl
    have hcn : (cd != 0) = true := by simpa using hc0
    have hcn2 : ¬ cd = 0 := hc0
    have hc00 : (cd == 0) = false := by simpa using hc0
    go_upto_region 8 with (fail)
    have hrf : ∀ W, Kept [] w6 W → Calls Tryz.prog 18 #[.iface 59 (.pointer (some ⟨eb, 0, none⟩)), .string ⟨#[114, 101, 97, 99, 104, 46, 110, 101, 101, 100]⟩, .int .i64 cd, .agg (bys i).toArray] W (fun e w' => e = .returned (.bool true) ∧ Kept [] W w') := fun W hW => by
      have hk := HK26.out.trans hW (by simp)
      have hf := HF7.out.kept hk
      rcases (HEA.out.kept hk).chn hil HFL.out with ⟨e1, e2⟩ | ⟨e1, k, e2⟩
      · rw [← hcd] at e1
        subst e1
        rw [e2] at hf
        exact refusedF_ok eb opNeed i W (HG2.out.kept hk) hf hil
      · rw [← hcd] at e1 e2
        exact refusedC_ok k ve eb opNeed i cd W (HG2.out.kept hk) hf e2 hil e1
    have his : ∀ W, Kept [] w6 W → Calls Tryz.prog 32 #[.iface 59 (.pointer (some ⟨eb, 0, none⟩)), ve] W (fun e w' => e = .returned (.bool true) ∧ Kept [] W w') := fun W hW => by
      have hk := HK26.out.trans hW (by simp)
      exact isErrA_ok eb opNeed L i ve W (HF7.out.kept hk) (by decide) hil (HEA.out.kept hk)
    have hri : w6.rangeAt tI 0 (bys i) := row_rangeK HRI.out
    have hiI := idl i hil
    obtain ⟨T9, u9, hve⟩ := HEA.out.shape
    have c4 : w6.cell? ⟨P, 2, none⟩ = some ve := HC4.out
    have c3 : w6.cell? ⟨gW, 5, none⟩ = some (.int .i64 cd) := by rw [← hcw]; exact HC3.out
    subst hve
    clear hcd hcw hc0
    go_wp2_with (first
      | refine wpList_load_midw9 25 (.tmp 13) rfl tI 0 rfl (bys i) _ hri Tryz.underlying25 rfl hiI (by kernel_rfl) ?_
      | (go_at_call 18; refine (hrf _ (Kept.refl _ _)).mono ?_; rintro e wy ⟨rfl, hky⟩; have HKY := hide hky; have c3 := HKY.out.cellOf c3 (by simp); have c4 := HKY.out.cellOf c4 (by simp); clear hrf hky)
      | (go_at_call 32; refine (his _ HKY.out).mono ?_; rintro e wz ⟨rfl, hkz⟩; have HKZ := hide (HKY.out.trans hkz (by simp)); clear his hkz))
    go_ret
    exact ⟨rfl, HK06.out.trans HKZ.out (by simp)⟩
  · as_aux_lemma =>
    clear HCA
    unfold faultV
    have HF7 := hide hf7
    clear hf7
    have hcn2 : ¬ cd = 0 := by simpa using hcn
    have hc00 : (cd == 0) = false := by simpa using hcn
    go_upto_region 8 with (fail)
    have hrf : ∀ W, Kept [] w6 W → Calls Tryz.prog 18 #[.iface 59 (.pointer (some ⟨eb, 0, none⟩)), .string ⟨#[114, 101, 97, 99, 104, 46, 110, 101, 101, 100]⟩, .int .i64 cd, .agg (bys i).toArray] W (fun e w' => e = .returned (.bool true) ∧ Kept [] W w') := fun W hW => by
      have hk := HK26.out.trans hW (by simp)
      exact refusedC_ok 0 _ eb opNeed i cd W (HG2.out.kept hk) (HF7.out.kept hk) rfl hil hne1
    have hri : w6.rangeAt tI 0 (bys i) := row_rangeK HRI.out
    have hiI := idl i hil
    have c3 : w6.cell? ⟨gW, 5, none⟩ = some (.int .i64 0) := by rw [← hcw]; exact HC3.out
    clear hcw hne1
    go_wp2_with (first
      | refine wpList_load_midw9 25 (.tmp 13) rfl tI 0 rfl (bys i) _ hri Tryz.underlying25 rfl hiI (by kernel_rfl) ?_
      | (go_at_call 18; refine (hrf _ (Kept.refl _ _)).mono ?_; rintro e wy ⟨rfl, hky⟩; have HKY := hide hky; have c3 := HKY.out.cellOf c3 (by simp); clear hrf hky))
    go_ret
    exact ⟨rfl, HK06.out.trans HKY.out (by simp)⟩
  · as_aux_lemma =>
    clear HCA
    obtain ⟨aG, cG, e9, _⟩ := own_shape ho2.1
    obtain ⟨aE, cE, e8, _⟩ := own_shape ho4.1
    obtain ⟨nG, hnG⟩ : ∃ n, (canon (walkW (itF L) [] (R.map (·.root))).2.1.N).length = n := ⟨_, rfl⟩
    rw [hnG] at e9 e8
    subst e9
    subst e8
    have hsm : ∀ W, Kept [] w6 W → Calls Tryz.prog 23 #[.slice aG nG cG, .slice aE nG cE] W (fun e w' => e = .returned (.bool true) ∧ Kept [] W w') := fun W hW => by
      have h := same9_ok aG aE nG nG cG cE _ _ W hnG hnG ((ho2.kept (HK26.out.trans hW (by simp)) (by simp)).ids.1) ((ho4.kept (HK46.out.trans hW (by simp)) (by simp)).ids.1) (own_max9 ho2) (own_max9 ho4)
      rw [decide_eq_true rfl] at h
      exact h
    have HSM := hide (hsm w6 (Kept.refl _ _))
    have hzz : ((0 : Int) != 0) = false := rfl
    clear hsm ho2 ho4 hnG
    have hsm := HSM.out
    go_wp2_with (go_at_call 23; refine hsm.mono ?_; rintro e wz ⟨rfl, hkz⟩; have HKZ := hide hkz; clear hsm hkz)
    go_ret
    exact ⟨rfl, HK06.out.trans HKZ.out (by simp)⟩
end

end Go.Proofs.YtngaimahhgmciaaGreatDoor
