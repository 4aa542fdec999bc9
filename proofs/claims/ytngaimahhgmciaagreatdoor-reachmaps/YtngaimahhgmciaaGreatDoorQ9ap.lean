/-
  The rounds that freightref9 reckons, as mathematics; they are the program's walk.
-/
import Derived.Test.YtngaimahhgmciaaGreatDoorK9needp
namespace Go.Proofs.YtngaimahhgmciaaGreatDoor
open Go.RowKit Go.Lib Go.Sort
set_option linter.unusedVariables false
set_option linter.unusedSimpArgs false

/-- What the document's walk has written down. -/
structure Rw where
  asked : List (List UInt8)
  need : List (List UInt8)
  bad : List (List UInt8)
  lacks : List (List UInt8)
def Rw.ask (f : List UInt8 → An) (w : Rw) (i : List UInt8) : Bool × Rw :=
  if i ∈ w.asked then (true, w) else match f i with
    | .fail => (false, { w with asked := w.asked ++ [i] })
    | .lack => (true, { w with asked := w.asked ++ [i], lacks := wth w.lacks i })
    | .data _ => (true, { w with asked := w.asked ++ [i] })
/-- A round's ids, asked for one behind the other. -/
def Rw.asks1 (f : List UInt8 → An) : Rw → List (List UInt8) → Option (List UInt8) × Rw
  | w, [] => (none, w)
  | w, i :: r => if (({ w with need := wth w.need i } : Rw).ask f i).1 = true then Rw.asks1 f (({ w with need := wth w.need i } : Rw).ask f i).2 r else (some i, (({ w with need := wth w.need i } : Rw).ask f i).2)
def Rw.asks (f : List UInt8 → An) : Rw → List (List UInt8) → Option (List UInt8) × Rw
  | w, [] => (none, w)
  | w, i :: r => if (w.ask f i).1 = true then Rw.asks f (w.ask f i).2 r else (some i, (w.ask f i).2)
def Rw.openE (w : Rw) (i : List UInt8) (next : List (List UInt8)) : An → Rw × List (List UInt8)
  | .data xs => match Tn.parse xs with
    | none => ({ w with bad := wth w.bad i }, next)
    | some E => ({ w with need := (E.map (·.id)).foldl wth w.need }, (fldsE E).foldl wth next)
  | _ => (w, next)
def Rw.opens (f : List UInt8 → An) : Rw → List (List UInt8) → List (List UInt8) → Rw × List (List UInt8)
  | w, next, [] => (w, next)
  | w, next, i :: r => Rw.opens f (w.openE i next (f i)).1 (w.openE i next (f i)).2 r
def Rw.rounds (f : List UInt8 → An) : Nat → Rw → List (List UInt8) → Option (List UInt8) × Rw × List (List UInt8)
  | 0, w, now => (none, w, now)
  | n + 1, w, now => match Rw.asks1 f w now with
    | (some i, w') => (some i, w', now)
    | (none, w') => Rw.rounds f n (Rw.opens f w' [] now).1 (Rw.opens f w' [] now).2
/-- The document's rounds of some roots. -/
def refW (f : List UInt8 → An) (roots : List (List UInt8)) : Option (List UInt8) × Rw × List (List UInt8) :=
  match Rw.rounds f 6 ⟨[], [], [], []⟩ (canon roots) with
    | (some i, w, R) => (some i, w, R)
    | (none, w, R) => ((Rw.asks f w w.need).1, (Rw.asks f w w.need).2, R)

/-- What the program's walk has found out, and what the document's has, in a round. -/
structure Inv9 (f : List UInt8 → An) (s : Ws) (w : Rw) (now : List (List UInt8)) : Prop where
  ord : s.ord = w.asked
  A : ∀ q, q ∈ s.A ↔ q ∈ w.asked
  L : ∀ q, q ∈ s.L ↔ q ∈ w.lacks
  B : ∀ q, q ∈ s.B ↔ q ∈ w.bad ∨ (q ∈ now ∧ q ∈ s.A ∧ badF f q)
  N : ∀ q, q ∈ s.N ↔ q ∈ w.need ∨ q ∈ now ∨ ∃ p, p ∈ now ∧ p ∈ s.A ∧ q ∈ idsF f p
  uL : Up w.lacks
  uB : Up w.bad
  uN : Up w.need
  bad : ∀ q, q ∈ s.A → badF f q → q ∈ s.B
  fl : ∀ q, q ∈ s.A → s.fl q = fldsF f q
  nf : ∀ q, q ∉ s.A → s.fl q = []
  sub : ∀ p q, p ∈ s.A → q ∈ idsF f p → q ∈ s.N

theorem Inv9.needs {f : List UInt8 → An} {s : Ws} {w : Rw} {now : List (List UInt8)} (h : Inv9 f s w now) {i : List UInt8} (hi : i ∈ now) : Inv9 f s { w with need := wth w.need i } now :=
  { h with
    N := fun q => by
      rw [h.N q]
      show _ ↔ q ∈ wth w.need i ∨ _
      rw [mem_wth]
      constructor
      · rintro (h1 | h1)
        · exact .inl (.inl h1)
        · exact .inr h1
      · rintro ((h1 | rfl) | h1)
        · exact .inl h1
        · exact .inr (.inl hi)
        · exact .inr h1
    uN := up_wth h.uN }

theorem ask_lackR {f : List UInt8 → An} {s : Ws} {w : Rw} {now : List (List UInt8)} (h : Inv9 f s w now) {i : List UInt8} (hi : i ∈ now) (hn : i ∉ s.A) (hf : f i = .lack) :
    Inv9 f { s.asked i with L := insI s.L i } { w with asked := w.asked ++ [i], lacks := wth w.lacks i } now where
  ord := by show s.ord ++ [i] = _; rw [h.ord]
  A q := by show q ∈ insI s.A i ↔ _; rw [mem_insI, h.A q]; simp
  L q := by show q ∈ insI s.L i ↔ q ∈ wth w.lacks i; rw [mem_insI, mem_wth, h.L q]
  B q := by
    show q ∈ s.B ↔ q ∈ w.bad ∨ (q ∈ now ∧ q ∈ insI s.A i ∧ badF f q)
    rw [h.B q, mem_insI]
    have hb : ¬ badF f i := by unfold badF; rw [hf]; exact id
    constructor
    · rintro (h1 | ⟨h1, h2, h3⟩)
      · exact .inl h1
      · exact .inr ⟨h1, .inl h2, h3⟩
    · rintro (h1 | ⟨h1, h2 | rfl, h3⟩)
      · exact .inl h1
      · exact .inr ⟨h1, h2, h3⟩
      · exact absurd h3 hb
  N q := by
    show q ∈ s.N ↔ q ∈ w.need ∨ q ∈ now ∨ ∃ p, p ∈ now ∧ p ∈ insI s.A i ∧ q ∈ idsF f p
    rw [h.N q]
    have hb : idsF f i = [] := by unfold idsF; rw [hf]
    constructor
    · rintro (h1 | h1 | ⟨p, h1, h2, h3⟩)
      · exact .inl h1
      · exact .inr (.inl h1)
      · exact .inr (.inr ⟨p, h1, mem_insI.2 (.inl h2), h3⟩)
    · rintro (h1 | h1 | ⟨p, h1, h2, h3⟩)
      · exact .inl h1
      · exact .inr (.inl h1)
      · rcases mem_insI.1 h2 with h2 | rfl
        · exact .inr (.inr ⟨p, h1, h2, h3⟩)
        · rw [hb] at h3; simp at h3
  uL := up_wth h.uL
  uB := h.uB
  uN := h.uN
  bad q hq hb := by
    show q ∈ s.B
    rcases mem_insI.1 hq with h2 | rfl
    · exact h.bad q h2 hb
    · unfold badF at hb; rw [hf] at hb; exact hb.elim
  fl q hq := by
    show s.fl q = _
    rcases mem_insI.1 hq with h2 | rfl
    · exact h.fl q h2
    · rw [h.nf q hn]; unfold fldsF; rw [hf]
  nf q hq := h.nf q (fun h2 => hq (mem_insI.2 (.inl h2)))
  sub p q hp hq := by
    show q ∈ s.N
    rcases mem_insI.1 hp with h2 | rfl
    · exact h.sub p q h2 hq
    · unfold idsF at hq; rw [hf] at hq; simp at hq

theorem ask_dataR {f : List UInt8 → An} {s : Ws} {w : Rw} {now : List (List UInt8)} (h : Inv9 f s w now) {i xs : List UInt8} (hi : i ∈ now) (hn : i ∉ s.A) (hf : f i = .data xs) :
    Inv9 f ((s.asked i).readE i (Tn.parse xs)) { w with asked := w.asked ++ [i] } now := by
  have hA : ∀ o, ((s.asked i).readE i o).A = insI s.A i := fun o => by cases o <;> rfl
  have hO : ∀ o, ((s.asked i).readE i o).ord = s.ord ++ [i] := fun o => by cases o <;> rfl
  have hL : ∀ o, ((s.asked i).readE i o).L = s.L := fun o => by cases o <;> rfl
  cases hp : Tn.parse xs with
  | none =>
    have hb : badF f i := by unfold badF; rw [hf]; exact hp
    have hids : idsF f i = [] := by unfold idsF; rw [hf]; simp only [hp]
    have hfl : fldsF f i = [] := by unfold fldsF; rw [hf]; simp only [hp]
    exact {
      ord := by rw [hO, h.ord]
      A := fun q => by rw [hA, mem_insI, h.A q]; simp
      L := fun q => by rw [hL]; exact h.L q
      B := fun q => by
        show q ∈ insI s.B i ↔ q ∈ w.bad ∨ (q ∈ now ∧ q ∈ insI s.A i ∧ badF f q)
        rw [mem_insI, mem_insI, h.B q]
        constructor
        · rintro ((h1 | ⟨h1, h2, h3⟩) | rfl)
          · exact .inl h1
          · exact .inr ⟨h1, .inl h2, h3⟩
          · exact .inr ⟨hi, .inr rfl, hb⟩
        · rintro (h1 | ⟨h1, h2 | rfl, h3⟩)
          · exact .inl (.inl h1)
          · exact .inl (.inr ⟨h1, h2, h3⟩)
          · exact .inr rfl
      N := fun q => by
        show q ∈ s.N ↔ q ∈ w.need ∨ q ∈ now ∨ ∃ p, p ∈ now ∧ p ∈ insI s.A i ∧ q ∈ idsF f p
        rw [h.N q]
        constructor
        · rintro (h1 | h1 | ⟨p, h1, h2, h3⟩)
          · exact .inl h1
          · exact .inr (.inl h1)
          · exact .inr (.inr ⟨p, h1, mem_insI.2 (.inl h2), h3⟩)
        · rintro (h1 | h1 | ⟨p, h1, h2, h3⟩)
          · exact .inl h1
          · exact .inr (.inl h1)
          · rcases mem_insI.1 h2 with h2 | rfl
            · exact .inr (.inr ⟨p, h1, h2, h3⟩)
            · rw [hids] at h3; simp at h3
      uL := h.uL
      uB := h.uB
      uN := h.uN
      bad := fun q hq hb => by
        show q ∈ insI s.B i
        rcases mem_insI.1 hq with h2 | rfl
        · exact mem_insI.2 (.inl (h.bad q h2 hb))
        · exact mem_insI.2 (.inr rfl)
      fl := fun q hq => by
        show s.fl q = _
        rcases mem_insI.1 hq with h2 | rfl
        · exact h.fl q h2
        · rw [h.nf q hn, hfl]
      nf := fun q hq => h.nf q (fun h2 => hq (mem_insI.2 (.inl h2)))
      sub := fun p q hp hq => by
        show q ∈ s.N
        rcases mem_insI.1 hp with h2 | rfl
        · exact h.sub p q h2 hq
        · rw [hids] at hq; simp at hq }
  | some E =>
    have hb : ¬ badF f i := by unfold badF; rw [hf]; simp only [hp]; simp
    have hids : idsF f i = E.map (·.id) := by unfold idsF; rw [hf]; simp only [hp]
    have hfl : fldsF f i = fldsE E := by unfold fldsF; rw [hf]; simp only [hp]
    exact {
      ord := by rw [hO, h.ord]
      A := fun q => by rw [hA, mem_insI, h.A q]; simp
      L := fun q => by rw [hL]; exact h.L q
      B := fun q => by
        show q ∈ s.B ↔ q ∈ w.bad ∨ (q ∈ now ∧ q ∈ insI s.A i ∧ badF f q)
        rw [mem_insI, h.B q]
        constructor
        · rintro (h1 | ⟨h1, h2, h3⟩)
          · exact .inl h1
          · exact .inr ⟨h1, .inl h2, h3⟩
        · rintro (h1 | ⟨h1, h2 | rfl, h3⟩)
          · exact .inl h1
          · exact .inr ⟨h1, h2, h3⟩
          · exact absurd h3 hb
      N := fun q => by
        show q ∈ insA s.N (E.map (·.id)) ↔ q ∈ w.need ∨ q ∈ now ∨ ∃ p, p ∈ now ∧ p ∈ insI s.A i ∧ q ∈ idsF f p
        rw [mem_insA, h.N q, ← hids]
        constructor
        · rintro ((h1 | h1 | ⟨p, h1, h2, h3⟩) | h1)
          · exact .inl h1
          · exact .inr (.inl h1)
          · exact .inr (.inr ⟨p, h1, mem_insI.2 (.inl h2), h3⟩)
          · exact .inr (.inr ⟨i, hi, mem_insI.2 (.inr rfl), h1⟩)
        · rintro (h1 | h1 | ⟨p, h1, h2, h3⟩)
          · exact .inl (.inl h1)
          · exact .inl (.inr (.inl h1))
          · rcases mem_insI.1 h2 with h2 | rfl
            · exact .inl (.inr (.inr ⟨p, h1, h2, h3⟩))
            · exact .inr h3
      uL := h.uL
      uB := h.uB
      uN := h.uN
      bad := fun q hq hb' => by
        show q ∈ s.B
        rcases mem_insI.1 hq with h2 | rfl
        · exact h.bad q h2 hb'
        · exact absurd hb' hb
      fl := fun q hq => by
        show (if q = i then fldsE E else s.fl q) = _
        by_cases e : q = i
        · rw [if_pos e, e, hfl]
        · rw [if_neg e]
          rcases mem_insI.1 hq with h2 | h2
          · exact h.fl q h2
          · exact absurd h2 e
      nf := fun q hq => by
        show (if q = i then fldsE E else s.fl q) = _
        have e : q ≠ i := fun e => hq (mem_insI.2 (.inr e))
        rw [if_neg e]
        exact h.nf q (fun h2 => hq (mem_insI.2 (.inl h2)))
      sub := fun p q hp hq => by
        show q ∈ insA s.N (E.map (·.id))
        rcases mem_insI.1 hp with h2 | rfl
        · exact mem_insA.2 (.inl (h.sub p q h2 hq))
        · exact mem_insA.2 (.inr (hids ▸ hq)) }

/-- A round's asking. -/
theorem trees_ref {f : List UInt8 → An} {now : List (List UInt8)} : ∀ (l : List (List UInt8)) (s : Ws) (w : Rw), (∀ q, q ∈ l → q ∈ now) → Inv9 f s w now →
    (Ws.trees f s l).1 = (Rw.asks1 f w l).1 ∧ (Ws.trees f s l).2.ord = (Rw.asks1 f w l).2.asked ∧
    ((Rw.asks1 f w l).1 = none → Inv9 f (Ws.trees f s l).2 (Rw.asks1 f w l).2 now ∧ (∀ q, q ∈ l → q ∈ (Ws.trees f s l).2.A ∧ q ∈ (Rw.asks1 f w l).2.need) ∧ (∀ q, q ∈ s.A → q ∈ (Ws.trees f s l).2.A) ∧ (∀ q, q ∈ w.need → q ∈ (Rw.asks1 f w l).2.need))
  | [], s, w, _, h => ⟨rfl, h.ord, fun _ => ⟨h, fun q hq => by simp at hq, fun _ h => h, fun _ h => h⟩⟩
  | i :: l, s, w, hl, h => by
    have hi : i ∈ now := hl i (by simp)
    have h1 := h.needs hi
    -- what the step is
    have step : ∀ (s' : Ws) (w' : Rw), s.tree f i = (true, s') → ({ w with need := wth w.need i } : Rw).ask f i = (true, w') → Inv9 f s' w' now → i ∈ s'.A → i ∈ w'.need → (∀ q, q ∈ s.A → q ∈ s'.A) → (∀ q, q ∈ w.need → q ∈ w'.need) →
        (Ws.trees f s (i :: l)).1 = (Rw.asks1 f w (i :: l)).1 ∧ (Ws.trees f s (i :: l)).2.ord = (Rw.asks1 f w (i :: l)).2.asked ∧
        ((Rw.asks1 f w (i :: l)).1 = none → Inv9 f (Ws.trees f s (i :: l)).2 (Rw.asks1 f w (i :: l)).2 now ∧ (∀ q, q ∈ i :: l → q ∈ (Ws.trees f s (i :: l)).2.A ∧ q ∈ (Rw.asks1 f w (i :: l)).2.need) ∧ (∀ q, q ∈ s.A → q ∈ (Ws.trees f s (i :: l)).2.A) ∧ (∀ q, q ∈ w.need → q ∈ (Rw.asks1 f w (i :: l)).2.need)) := by
      intro s' w' e1 e2 hI ha hn hA hN
      have t1 : Ws.trees f s (i :: l) = Ws.trees f s' l := by simp only [Ws.trees, e1, if_pos]
      have t2 : Rw.asks1 f w (i :: l) = Rw.asks1 f w' l := by simp only [Rw.asks1, e2, if_pos]
      rw [t1, t2]
      obtain ⟨g1, g2, g3⟩ := trees_ref l s' w' (fun q hq => hl q (by simp [hq])) hI
      refine ⟨g1, g2, fun hnn => ?_⟩
      obtain ⟨k1, k2, k3, k4⟩ := g3 hnn
      refine ⟨k1, fun q hq => ?_, fun q hq => k3 q (hA q hq), fun q hq => k4 q (hN q hq)⟩
      rcases List.mem_cons.1 hq with rfl | hq
      · exact ⟨k3 _ ha, k4 _ hn⟩
      · exact k2 q hq
    have hnn : i ∈ wth w.need i := mem_wth.2 (.inr rfl)
    have hnm : ∀ q, q ∈ w.need → q ∈ wth w.need i := fun q hq => mem_wth.2 (.inl hq)
    by_cases ha : i ∈ s.A
    · have hw : i ∈ w.asked := (h.A i).1 ha
      refine step s { w with need := wth w.need i } (by unfold Ws.tree; rw [if_pos ha]) (by unfold Rw.ask; rw [if_pos (show i ∈ ({ w with need := wth w.need i } : Rw).asked from hw)]) h1 ha hnn (fun _ h => h) hnm
    · have hw : i ∉ w.asked := fun hx => ha ((h.A i).2 hx)
      cases hf : f i with
      | fail =>
        have e1 : s.tree f i = (false, s.asked i) := by unfold Ws.tree; rw [if_neg ha]; simp only [hf]
        have e2 : ({ w with need := wth w.need i } : Rw).ask f i = (false, { w with need := wth w.need i, asked := w.asked ++ [i] }) := by unfold Rw.ask; rw [if_neg (show ¬ i ∈ ({ w with need := wth w.need i } : Rw).asked from hw)]; simp only [hf]
        have t1 : Ws.trees f s (i :: l) = (some i, s.asked i) := by simp [Ws.trees, e1]
        have t2 : Rw.asks1 f w (i :: l) = (some i, { w with need := wth w.need i, asked := w.asked ++ [i] }) := by simp [Rw.asks1, e2]
        rw [t1, t2]
        refine ⟨rfl, ?_, fun hx => by cases hx⟩
        show s.ord ++ [i] = w.asked ++ [i]
        rw [h.ord]
      | lack =>
        exact step _ _ (by unfold Ws.tree; rw [if_neg ha]; simp only [hf]) (by unfold Rw.ask; rw [if_neg (show ¬ i ∈ ({ w with need := wth w.need i } : Rw).asked from hw)]; simp only [hf]) (ask_lackR h1 hi ha hf) (mem_insI.2 (.inr rfl)) hnn (fun q hq => mem_insI.2 (.inl hq)) hnm
      | data xs =>
        have hA : ((s.asked i).readE i (Tn.parse xs)).A = insI s.A i := by cases Tn.parse xs <;> rfl
        exact step _ _ (by unfold Ws.tree; rw [if_neg ha]; simp only [hf]) (by unfold Rw.ask; rw [if_neg (show ¬ i ∈ ({ w with need := wth w.need i } : Rw).asked from hw)]; simp only [hf]) (ask_dataR h1 hi ha hf) (by rw [hA]; exact mem_insI.2 (.inr rfl)) hnn (fun q hq => by rw [hA]; exact mem_insI.2 (.inl hq)) hnm

/-- A round's opening. -/
theorem opens_ref {f : List UInt8 → An} : ∀ (l next : List (List UInt8)) (w : Rw), Up w.bad → Up w.need → Up next →
    (Rw.opens f w next l).1.asked = w.asked ∧ (Rw.opens f w next l).1.lacks = w.lacks ∧ Up (Rw.opens f w next l).1.bad ∧ Up (Rw.opens f w next l).1.need ∧ Up (Rw.opens f w next l).2 ∧
    (∀ q, q ∈ (Rw.opens f w next l).1.bad ↔ q ∈ w.bad ∨ (q ∈ l ∧ badF f q)) ∧ (∀ q, q ∈ (Rw.opens f w next l).1.need ↔ q ∈ w.need ∨ ∃ p, p ∈ l ∧ q ∈ idsF f p) ∧ (∀ q, q ∈ (Rw.opens f w next l).2 ↔ q ∈ next ∨ ∃ p, p ∈ l ∧ q ∈ fldsF f p)
  | [], next, w, h1, h2, h3 => ⟨rfl, rfl, h1, h2, h3, fun q => by simp [Rw.opens], fun q => by simp [Rw.opens], fun q => by simp [Rw.opens]⟩
  | i :: l, next, w, h1, h2, h3 => by
    have key : (w.openE i next (f i)).1.asked = w.asked ∧ (w.openE i next (f i)).1.lacks = w.lacks ∧ Up (w.openE i next (f i)).1.bad ∧ Up (w.openE i next (f i)).1.need ∧ Up (w.openE i next (f i)).2 ∧
        (∀ q, q ∈ (w.openE i next (f i)).1.bad ↔ q ∈ w.bad ∨ (q = i ∧ badF f q)) ∧ (∀ q, q ∈ (w.openE i next (f i)).1.need ↔ q ∈ w.need ∨ q ∈ idsF f i) ∧ (∀ q, q ∈ (w.openE i next (f i)).2 ↔ q ∈ next ∨ q ∈ fldsF f i) := by
      have hb0 : ∀ q, (q = i ∧ badF f q) ↔ (q = i ∧ badF f i) := fun q => ⟨fun ⟨e, h⟩ => ⟨e, e ▸ h⟩, fun ⟨e, h⟩ => ⟨e, e ▸ h⟩⟩
      simp only [hb0]
      unfold badF idsF fldsF
      cases hf : f i with
      | fail => exact ⟨rfl, rfl, h1, h2, h3, fun q => by simp [Rw.openE], fun q => by simp [Rw.openE], fun q => by simp [Rw.openE]⟩
      | lack => exact ⟨rfl, rfl, h1, h2, h3, fun q => by simp [Rw.openE], fun q => by simp [Rw.openE], fun q => by simp [Rw.openE]⟩
      | data xs =>
        cases hp : Tn.parse xs with
        | none =>
          have e : w.openE i next (.data xs) = ({ w with bad := wth w.bad i }, next) := by simp only [Rw.openE, hp]
          rw [e]
          exact ⟨rfl, rfl, up_wth h1, h2, h3, fun q => by simp [mem_wth, hp], fun q => by simp [hp], fun q => by simp [hp]⟩
        | some E =>
          have e : w.openE i next (.data xs) = ({ w with need := (E.map (·.id)).foldl wth w.need }, (fldsE E).foldl wth next) := by simp only [Rw.openE, hp]
          rw [e]
          refine ⟨rfl, rfl, h1, (foldl_wth _ _ h2).1, (foldl_wth _ _ h3).1, fun q => by simp [hp], fun q => ?_, fun q => ?_⟩
          · simp only [hp]; exact (foldl_wth _ _ h2).2 q
          · simp only [hp]; exact (foldl_wth _ _ h3).2 q
    obtain ⟨k1, k2, k3, k4, k5, k6, k7, k8⟩ := key
    obtain ⟨g1, g2, g3, g4, g5, g6, g7, g8⟩ := opens_ref l _ _ k3 k4 k5
    refine ⟨g1.trans k1, g2.trans k2, g3, g4, g5, fun q => ?_, fun q => ?_, fun q => ?_⟩
    · show q ∈ (Rw.opens f _ _ l).1.bad ↔ _
      rw [g6 q, k6 q, List.mem_cons]
      constructor
      · rintro ((h | ⟨h, hb⟩) | ⟨h, hb⟩)
        · exact .inl h
        · exact .inr ⟨.inl h, hb⟩
        · exact .inr ⟨.inr h, hb⟩
      · rintro (h | ⟨h | h, hb⟩)
        · exact .inl (.inl h)
        · exact .inl (.inr ⟨h, hb⟩)
        · exact .inr ⟨h, hb⟩
    · show q ∈ (Rw.opens f _ _ l).1.need ↔ _
      rw [g7 q, k7 q]
      simp only [List.mem_cons]
      constructor
      · rintro ((h | h) | ⟨p, hp, h⟩)
        · exact .inl h
        · exact .inr ⟨i, .inl rfl, h⟩
        · exact .inr ⟨p, .inr hp, h⟩
      · rintro (h | ⟨p, rfl | hp, h⟩)
        · exact .inl (.inl h)
        · exact .inl (.inr h)
        · exact .inr ⟨p, hp, h⟩
    · show q ∈ (Rw.opens f _ _ l).2 ↔ _
      rw [g8 q, k8 q]
      simp only [List.mem_cons]
      constructor
      · rintro ((h | h) | ⟨p, hp, h⟩)
        · exact .inl h
        · exact .inr ⟨i, .inl rfl, h⟩
        · exact .inr ⟨p, .inr hp, h⟩
      · rintro (h | ⟨p, rfl | hp, h⟩)
        · exact .inl (.inl h)
        · exact .inl (.inr h)
        · exact .inr ⟨p, hp, h⟩

/-- Round by round. -/
theorem rounds_ref {f : List UInt8 → An} : ∀ (n : Nat) (s : Ws) (w : Rw) (now : List (List UInt8)), Up now → Inv9 f s w now →
    (Ws.rounds f n s now).1 = (Rw.rounds f n w now).1 ∧ (Ws.rounds f n s now).2.1.ord = (Rw.rounds f n w now).2.1.asked ∧
    ((Rw.rounds f n w now).1 = none → (Ws.rounds f n s now).2.2 = (Rw.rounds f n w now).2.2 ∧ Inv9 f (Ws.rounds f n s now).2.1 (Rw.rounds f n w now).2.1 (Rw.rounds f n w now).2.2 ∧ Up (Rw.rounds f n w now).2.2 ∧ (0 < n → (∀ q, q ∈ (Ws.rounds f n s now).2.1.N → q ∈ (Rw.rounds f n w now).2.1.need) ∧ (∀ q, q ∈ (Ws.rounds f n s now).2.1.B → q ∈ (Rw.rounds f n w now).2.1.bad)))
  | 0, s, w, now, hu, h => ⟨rfl, h.ord, fun _ => ⟨rfl, h, hu, fun h => by omega⟩⟩
  | n + 1, s, w, now, hu, h => by
    obtain ⟨g1, g2, g3⟩ := trees_ref now s w (fun _ h => h) h
    rcases ht : Ws.trees f s now with ⟨o1, s1⟩
    rcases hr : Rw.asks1 f w now with ⟨o2, w1⟩
    rw [ht, hr] at g1 g2 g3
    simp only at g1 g2 g3
    subst g1
    cases o1 with
    | some i =>
      have t1 : Ws.rounds f (n + 1) s now = (some i, s1, now) := by simp only [Ws.rounds, ht]
      have t2 : Rw.rounds f (n + 1) w now = (some i, w1, now) := by simp only [Rw.rounds, hr]
      rw [t1, t2]
      exact ⟨rfl, g2, fun hx => by cases hx⟩
    | none =>
      obtain ⟨k1, k2, k3, k4⟩ := g3 rfl
      obtain ⟨p1, p2, p3, p4, p5, p6, p7, p8⟩ := opens_ref (f := f) now [] w1 k1.uB k1.uN (by simp [Up])
      have hnx : (Rw.opens f w1 [] now).2 = canon (now.flatMap s1.fl) := by
        refine up_uniq p5 (up_canon _) (fun q => ?_)
        rw [p8 q, mem_canon, List.mem_flatMap]
        constructor
        · rintro (h | ⟨p, hp, h⟩)
          · simp at h
          · exact ⟨p, hp, by rw [k1.fl p (k2 p hp).1]; exact h⟩
        · rintro ⟨p, hp, h⟩
          rw [k1.fl p (k2 p hp).1] at h
          exact .inr ⟨p, hp, h⟩
      have t1 : Ws.rounds f (n + 1) s now = Ws.rounds f n s1 (canon (now.flatMap s1.fl)) := by simp only [Ws.rounds, ht]
      have t2 : Rw.rounds f (n + 1) w now = Rw.rounds f n (Rw.opens f w1 [] now).1 (Rw.opens f w1 [] now).2 := by simp only [Rw.rounds, hr]
      have hsub : ∀ q, q ∈ (Rw.opens f w1 [] now).2 → q ∈ (Rw.opens f w1 [] now).1.need := fun q hq => by
        rcases (p8 q).1 hq with h | ⟨p, hp, h⟩
        · simp at h
        · exact (p7 q).2 (.inr ⟨p, hp, flds_ids h⟩)
      have hNn : ∀ q, q ∈ s1.N → q ∈ (Rw.opens f w1 [] now).1.need := fun q h => by
        rcases (k1.N q).1 h with h | h | ⟨p, h1, _, h3⟩
        · exact (p7 q).2 (.inl h)
        · exact (p7 q).2 (.inl (k2 q h).2)
        · exact (p7 q).2 (.inr ⟨p, h1, h3⟩)
      have hBb : ∀ q, q ∈ s1.B → q ∈ (Rw.opens f w1 [] now).1.bad := fun q h => by
        rcases (k1.B q).1 h with h | ⟨h1, _, h3⟩
        · exact (p6 q).2 (.inl h)
        · exact (p6 q).2 (.inr ⟨h1, h3⟩)
      have hI : Inv9 f s1 (Rw.opens f w1 [] now).1 (Rw.opens f w1 [] now).2 := {
        ord := by rw [p1]; exact k1.ord
        A := fun q => by rw [p1]; exact k1.A q
        L := fun q => by rw [p2]; exact k1.L q
        B := fun q => by
          rw [p6 q]
          constructor
          · intro h
            rcases (k1.B q).1 h with h | ⟨h1, _, h3⟩
            · exact .inl (.inl h)
            · exact .inl (.inr ⟨h1, h3⟩)
          · rintro ((h | ⟨h1, h3⟩) | ⟨_, h2, h3⟩)
            · exact (k1.B q).2 (.inl h)
            · exact k1.bad q (k2 q h1).1 h3
            · exact k1.bad q h2 h3
        N := fun q => by
          constructor
          · exact fun h => .inl (hNn q h)
          · have hn : q ∈ (Rw.opens f w1 [] now).1.need → q ∈ s1.N := fun h => by
              rcases (p7 q).1 h with h | ⟨p, h1, h3⟩
              · exact (k1.N q).2 (.inl h)
              · exact k1.sub p q (k2 p h1).1 h3
            rintro (h | h | ⟨p, _, h2, h3⟩)
            · exact hn h
            · exact hn (hsub q h)
            · exact k1.sub p q h2 h3
        uL := by rw [p2]; exact k1.uL
        uB := p3
        uN := p4
        bad := k1.bad
        fl := k1.fl
        nf := k1.nf
        sub := k1.sub }
      rw [t1, t2, ← hnx]
      obtain ⟨j1, j2, j3⟩ := rounds_ref n s1 _ _ p5 hI
      refine ⟨j1, j2, fun hx => ?_⟩
      obtain ⟨m1, m2, m3, m4⟩ := j3 hx
      refine ⟨m1, m2, m3, fun _ => ?_⟩
      cases n with
      | zero => exact ⟨hNn, hBb⟩
      | succ n => exact m4 (by omega)

/-- The rest, asked for. -/
theorem others_ref {f : List UInt8 → An} : ∀ (l : List (List UInt8)) (s : Ws) (w : Rw), s.ord = w.asked → (∀ q, q ∈ s.A ↔ q ∈ w.asked) → (∀ q, q ∈ s.L ↔ q ∈ w.lacks) → Up w.lacks →
    (Ws.others f s l).1 = (Rw.asks f w l).1 ∧ (Ws.others f s l).2.ord = (Rw.asks f w l).2.asked ∧ (∀ q, q ∈ (Ws.others f s l).2.L ↔ q ∈ (Rw.asks f w l).2.lacks) ∧ Up (Rw.asks f w l).2.lacks ∧
    (Ws.others f s l).2.N = s.N ∧ (Ws.others f s l).2.B = s.B ∧ (Rw.asks f w l).2.need = w.need ∧ (Rw.asks f w l).2.bad = w.bad
  | [], s, w, h1, h2, h3, h4 => ⟨rfl, h1, h3, h4, rfl, rfl, rfl, rfl⟩
  | i :: l, s, w, h1, h2, h3, h4 => by
    by_cases ha : i ∈ s.A
    · have hw : i ∈ w.asked := (h2 i).1 ha
      have e1 : s.other f i = (true, s) := by unfold Ws.other; rw [if_pos ha]
      have e2 : w.ask f i = (true, w) := by unfold Rw.ask; rw [if_pos hw]
      have t1 : Ws.others f s (i :: l) = Ws.others f s l := by simp only [Ws.others, e1, if_pos]
      have t2 : Rw.asks f w (i :: l) = Rw.asks f w l := by simp only [Rw.asks, e2, if_pos]
      rw [t1, t2]
      exact others_ref l s w h1 h2 h3 h4
    · have hw : i ∉ w.asked := fun hx => ha ((h2 i).2 hx)
      have hord : s.ord ++ [i] = w.asked ++ [i] := by rw [h1]
      have hA : ∀ q, q ∈ insI s.A i ↔ q ∈ w.asked ++ [i] := fun q => by rw [mem_insI, h2 q]; simp
      cases hf : f i with
      | fail =>
        have e1 : s.other f i = (false, s.asked i) := by unfold Ws.other; rw [if_neg ha]; simp only [hf]
        have e2 : w.ask f i = (false, { w with asked := w.asked ++ [i] }) := by unfold Rw.ask; rw [if_neg hw]; simp only [hf]
        have t1 : Ws.others f s (i :: l) = (some i, s.asked i) := by simp [Ws.others, e1]
        have t2 : Rw.asks f w (i :: l) = (some i, { w with asked := w.asked ++ [i] }) := by simp [Rw.asks, e2]
        rw [t1, t2]
        exact ⟨rfl, hord, h3, h4, rfl, rfl, rfl, rfl⟩
      | lack =>
        have e1 : s.other f i = (true, { s.asked i with L := insI s.L i }) := by unfold Ws.other; rw [if_neg ha]; simp only [hf]
        have e2 : w.ask f i = (true, { w with asked := w.asked ++ [i], lacks := wth w.lacks i }) := by unfold Rw.ask; rw [if_neg hw]; simp only [hf]
        have t1 : Ws.others f s (i :: l) = Ws.others f { s.asked i with L := insI s.L i } l := by simp only [Ws.others, e1, if_pos]
        have t2 : Rw.asks f w (i :: l) = Rw.asks f { w with asked := w.asked ++ [i], lacks := wth w.lacks i } l := by simp only [Rw.asks, e2, if_pos]
        rw [t1, t2]
        exact others_ref l _ _ hord hA (fun q => by show q ∈ insI s.L i ↔ q ∈ wth w.lacks i; rw [mem_insI, mem_wth, h3 q]) (up_wth h4)
      | data xs =>
        have e1 : s.other f i = (true, s.asked i) := by unfold Ws.other; rw [if_neg ha]; simp only [hf]
        have e2 : w.ask f i = (true, { w with asked := w.asked ++ [i] }) := by unfold Rw.ask; rw [if_neg hw]; simp only [hf]
        have t1 : Ws.others f s (i :: l) = Ws.others f (s.asked i) l := by simp only [Ws.others, e1, if_pos]
        have t2 : Rw.asks f w (i :: l) = Rw.asks f { w with asked := w.asked ++ [i] } l := by simp only [Rw.asks, e2, if_pos]
        rw [t1, t2]
        exact others_ref l _ _ hord hA h3 h4

/-- The document's rounds are the program's walk. -/
theorem walk_ref (f : List UInt8 → An) (roots : List (List UInt8)) :
    (refW f roots).1 = (walkW f [] roots).1 ∧ (refW f roots).2.1.asked = (walkW f [] roots).2.1.ord ∧
    ((walkW f [] roots).1 = none → (refW f roots).2.1.need = canon (walkW f [] roots).2.1.N ∧ (refW f roots).2.1.bad = canon (walkW f [] roots).2.1.B ∧ (refW f roots).2.1.lacks = canon (walkW f [] roots).2.1.L ∧ (refW f roots).2.2 = (walkW f [] roots).2.2) := by
  have h0 : Inv9 f ⟨[], [], insA [] roots, [], [], fun _ => []⟩ ⟨[], [], [], []⟩ (canon roots) := {
    ord := rfl
    A := fun q => by simp
    L := fun q => by simp
    B := fun q => by simp
    N := fun q => by
      show q ∈ insA [] roots ↔ _
      rw [mem_insA]
      constructor
      · rintro (h | h)
        · simp at h
        · exact .inr (.inl (mem_canon.2 h))
      · rintro (h | h | ⟨p, _, h, _⟩)
        · simp at h
        · exact .inr (mem_canon.1 h)
        · simp at h
    uL := by simp [Up]
    uB := by simp [Up]
    uN := by simp [Up]
    bad := fun q h => by simp at h
    fl := fun q h => by simp at h
    nf := fun q _ => rfl
    sub := fun p q h => by simp at h }
  obtain ⟨g1, g2, g3⟩ := rounds_ref 6 _ _ _ (up_canon roots) h0
  rcases ht : Ws.rounds f 6 ⟨[], [], insA [] roots, [], [], fun _ => []⟩ (canon roots) with ⟨o1, s1, R1⟩
  rcases hr : Rw.rounds f 6 ⟨[], [], [], []⟩ (canon roots) with ⟨o2, w1, R2⟩
  rw [ht, hr] at g1 g2 g3
  simp only at g1 g2 g3
  subst g1
  cases o1 with
  | some i =>
    have t1 : walkW f [] roots = (some i, s1, R1) := by simp only [walkW, ht]
    have t2 : refW f roots = (some i, w1, R2) := by simp only [refW, hr]
    rw [t1, t2]
    exact ⟨rfl, g2.symm, fun hx => by cases hx⟩
  | none =>
    obtain ⟨rfl, k2, k3, k4⟩ := g3 rfl
    have hneed : w1.need = canon s1.N := up_uniq k2.uN (up_canon _) (fun q => by
      rw [mem_canon]
      exact ⟨fun h => (k2.N q).2 (.inl h), (k4 (by omega)).1 q⟩)
    have t1 : walkW f [] roots = ((Ws.others f s1 (canon s1.N)).1, (Ws.others f s1 (canon s1.N)).2, R1) := by simp only [walkW, ht]
    have t2 : refW f roots = ((Rw.asks f w1 (canon s1.N)).1, (Rw.asks f w1 (canon s1.N)).2, R1) := by simp only [refW, hr, hneed]
    obtain ⟨j1, j2, j3, j4, j5, j6, j7, j8⟩ := others_ref (canon s1.N) s1 w1 g2 k2.A k2.L k2.uL
    rw [t1, t2]
    refine ⟨j1.symm, j2.symm, fun _ => ⟨?_, ?_, ?_, rfl⟩⟩
    · show (Rw.asks f w1 (canon s1.N)).2.need = canon (Ws.others f s1 (canon s1.N)).2.N
      rw [j7, j5, hneed]
    · show (Rw.asks f w1 (canon s1.N)).2.bad = canon (Ws.others f s1 (canon s1.N)).2.B
      rw [j8, j6]
      refine up_uniq k2.uB (up_canon _) (fun q => ?_)
      rw [mem_canon]
      exact ⟨fun h => (k2.B q).2 (.inl h), (k4 (by omega)).2 q⟩
    · exact up_uniq j4 (up_canon _) (fun q => by rw [mem_canon, j3 q])

end Go.Proofs.YtngaimahhgmciaaGreatDoor
