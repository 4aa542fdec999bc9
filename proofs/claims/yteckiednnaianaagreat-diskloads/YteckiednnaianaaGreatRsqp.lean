import Derived.Deep.RegionHeld
namespace Go.Proofs.YteckiednnaianaaGreat
open Go
set_option linter.unusedVariables false
set_option linter.unusedSimpArgs false
structure Ro where
 dst : Option Nat
 looks : List Nat
 aft : List Nat
def roOf (md : Region.Mode) (ops : Array Oper) (o : Oper) : Ro := ⟨o.dst, o.looksAt ops, (o.after.toList.filter (Region.binds md)).map (·.on)⟩
def bitq (m i : Nat) : Bool := !(Nat.beq (Nat.land (Nat.shiftRight m i) 1) 0)
def inq (x : Nat) : List Nat → Bool
 | [] => false
 | y :: l => Nat.beq x y || inq x l
def allq (m : Nat) : List Nat → Bool
 | [] => true
 | y :: l => bitq m y && allq m l
def aptq (x y : Ro) : Bool :=
 (match x.dst with
   | some d => !inq d y.looks && (match y.dst with | some e => !Nat.beq e d | none => true)
   | none => true) &&
 (match y.dst with
   | some d => !inq d x.looks
   | none => true)
def frq (m i : Nat) (x : Ro) : Nat → List Ro → Bool
 | _, [] => true
 | j, y :: l => (Nat.beq j i || bitq m j || inq i y.aft || aptq x y) && frq m i x (j + 1) l
def rdq (m j : Nat) (y : Ro) : Bool := !bitq m j && allq m y.aft
def onq (m i : Nat) : Nat → List Ro → Bool
 | _, [] => true
 | j, y :: l => (match Nat.beq j i with | true => rdq m j y | false => !rdq m j y) && onq m i (j + 1) l
def upq (m : Nat) : Nat → List Ro → Bool
 | _, [] => true
 | j, _ :: l => bitq m j && upq m (j + 1) l
def chkq (D : List Ro) : List (Bool × Nat) → Nat → Bool
 | [], m => upq m 0 D
 | (b, i) :: r, m => (match D[i]? with
   | none => false
   | some x => match b with
    | false => frq m i x 0 D && rdq m i x
    | true => onq m i 0 D) && chkq D r (Nat.lor m (Nat.shiftLeft 1 i))
theorem bitq_eq (m i : Nat) : bitq m i = m.testBit i := by
 show (!(Nat.beq ((m >>> i) &&& 1) 0)) = _
 rw [Nat.testBit, Nat.and_comm]
 cases h : (1 &&& (m >>> i)) <;> rfl
theorem bitq_set (m i j : Nat) : bitq (Nat.lor m (Nat.shiftLeft 1 i)) j = (bitq m j || decide (i = j)) := by
 rw [bitq_eq, bitq_eq]
 show (m ||| (1 <<< i)).testBit j = _
 rw [Nat.testBit_or, Nat.one_shiftLeft, Nat.testBit_two_pow]
theorem bitq_zero (j : Nat) : bitq 0 j = false := by rw [bitq_eq]; simp
theorem inq_iff (x : Nat) : ∀ l : List Nat, inq x l = true ↔ x ∈ l
 | [] => by simp [inq]
 | y :: l => by simp [inq, inq_iff x l]
theorem allq_iff (m : Nat) : ∀ l : List Nat, allq m l = true ↔ ∀ e ∈ l, bitq m e = true
 | [] => by simp [allq]
 | y :: l => by simp [allq, allq_iff m l]
section
variable {P : Program} {ops : Array Oper} {Q : Exit → Act → World → Prop} {md : Region.Mode} {S : World → Prop}
theorem aptq_apart {x y : Oper} (h : aptq (roOf md ops x) (roOf md ops y) = true) : x.apart ops y = true := by
 have hin : ∀ d l, inq d l = l.contains d := fun d l => by
  cases h1 : inq d l with
  | true => exact (List.contains_iff_mem.2 ((inq_iff d l).1 h1)).symm
  | false =>
   cases h2 : l.contains d with
   | false => rfl
   | true => rw [(inq_iff d l).2 (List.contains_iff_mem.1 h2)] at h1; cases h1
 simp only [aptq, roOf, hin] at h
 unfold Oper.apart
 rcases hx : x.dst with _ | d <;> rcases hy : y.dst with _ | e <;> simp only [hx, hy] at h ⊢
 ·simp
 ·simpa using h
 ·simpa using h
 ·have he : (some e != some d) = !Nat.beq e d := by
   cases h1 : Nat.beq e d with
   | true => simp [Nat.eq_of_beq_eq_true h1]
   | false => simp [Nat.ne_of_beq_eq_false h1]
  rw [he]; exact h
theorem frq_at {m i : Nat} {x : Ro} : ∀ {l : List Ro} {k j : Nat} {y : Ro}, frq m i x k l = true → l[j]? = some y → (Nat.beq (k + j) i || bitq m (k + j) || inq i y.aft || aptq x y) = true
 | z :: l, k, 0, y, h, hj => by
  simp only [frq, Bool.and_eq_true] at h
  simp at hj; subst hj
  exact h.1
 | z :: l, k, j + 1, y, h, hj => by
  simp only [frq, Bool.and_eq_true] at h
  have := frq_at (k := k + 1) (j := j) h.2 (by simpa using hj)
  rwa [show k + 1 + j = k + (j + 1) by omega] at this
theorem onq_at {m i : Nat} : ∀ {l : List Ro} {k j : Nat} {y : Ro}, onq m i k l = true → l[j]? = some y → (rdq m (k + j) y = true ↔ k + j = i)
 | z :: l, k, 0, y, h, hj => by
  simp only [onq, Bool.and_eq_true] at h
  simp at hj; subst hj
  have h1 := h.1
  cases hb : Nat.beq k i with
  | true => rw [hb] at h1; have := Nat.eq_of_beq_eq_true hb; exact ⟨fun _ => this, fun _ => h1⟩
  | false => rw [hb] at h1; have := Nat.ne_of_beq_eq_false hb; simp at h1; simp [h1, this]
 | z :: l, k, j + 1, y, h, hj => by
  simp only [onq, Bool.and_eq_true] at h
  have := onq_at (k := k + 1) (j := j) h.2 (by simpa using hj)
  rwa [show k + 1 + j = k + (j + 1) by omega] at this
theorem upq_at {m : Nat} : ∀ {l : List Ro} {k j : Nat} {y : Ro}, upq m k l = true → l[j]? = some y → bitq m (k + j) = true
 | z :: l, k, 0, y, h, hj => by
  simp only [upq, Bool.and_eq_true] at h
  exact h.1
 | z :: l, k, j + 1, y, h, hj => by
  simp only [upq, Bool.and_eq_true] at h
  have := upq_at (k := k + 1) (j := j) h.2 (by simpa using hj)
  rwa [show k + 1 + j = k + (j + 1) by omega] at this
def seqH (P : Program) (ops : Array Oper) (Q : Exit → Act → World → Prop) (S : World → Prop) : List (Bool × Nat) → Act → World → Prop
 | [], a, w => Q .normal a w
 | (false, i) :: r, a, w => ∃ oi v, ops[i]? = some oi ∧ YieldsIf P ops S oi v a ∧ (∀ c a w, Q (.panic c) (a.put oi.dst v) w → Q (.panic c) a w) ∧ seqH P ops Q S r (a.put oi.dst v) w
 | (true, i) :: r, a, w => wpOp P ops Q i (fun a' w' => S w' ∧ seqH P ops Q S r a' w') a w
theorem seqH_take {i : Nat} {oi : Oper} {v : Value} {d : Option Tmp} {r : List (Bool × Nat)} {a : Act} {w : World} (hi : ops[i]? = some oi) (hd : oi.dst = d) (hQ : ∀ c a w, Q (.panic c) (a.put d v) w → Q (.panic c) a w) (hy : YieldsIf P ops S oi v a)
  (h : seqH P ops Q S r (a.put d v) w) : seqH P ops Q S ((false, i) :: r) a w := by subst hd; exact ⟨oi, v, hi, hy, hQ, h⟩
theorem seqH_run {i : Nat} {o : Oper} {r : List (Bool × Nat)} {a : Act} {w : World} (ho : ops[i]? = some o)
  (h : ∀ K' : Act → World → Prop, Shut (∀ a w, S w → (S w → seqH P ops Q S r a w) → K' a w) → if Region.wanted o (yielded ops a.tmps) = true then Oper.wp P o a w K' Q else K' (a.put o.dst undef) w) : seqH P ops Q S ((true, i) :: r) a w :=
 wpOp_step ho (fun K' hK => h K' (fun a w hS hW => hK a w ⟨hS, hW hS⟩))
theorem seqH_done {a : Act} {w : World} (h : Q .normal a w) : seqH P ops Q S [] a w := h
theorem getD_sets {listed : Array Bool} {n m i : Nat} (hn : listed.size = n) (hi : i < n) (hb : ∀ j, listed.getD j false = bitq m j) (j : Nat) : (listed.setIfInBounds i true).getD j false = bitq (Nat.lor m (Nat.shiftLeft 1 i)) j := by
 rw [bitq_set, ← hb j]
 by_cases hij : i = j
 ·subst hij
  simp [Array.getD_eq_getD_getElem?, hn, hi]
 ·simp [Array.getD_eq_getD_getElem?, hij, Array.getElem?_setIfInBounds_ne]
theorem getD_two {listed : Array Bool} {j : Nat} (h : listed.getD j true = false) : listed.getD j false = false := by
 rw [Array.getD_eq_getD_getElem?] at *
 cases h1 : listed[j]? <;> simp_all
theorem getD_back {listed : Array Bool} {j : Nat} (hj : j < listed.size) (h : listed.getD j false = false) : listed.getD j true = false := by
 rw [Array.getD_eq_getD_getElem?] at *
 simp_all
theorem rdq_iff {m j : Nat} {o : Oper} {listed : Array Bool} (hn : listed.size = ops.size) (hb : ∀ j, listed.getD j false = bitq m j) (hj : ops[j]? = some o) :
  rdq m j (roOf md ops o) = true ↔ j ∈ Region.ready md ops listed := by
 have hlt : j < ops.size := (Array.getElem?_eq_some_iff.1 hj).1
 rw [mem_ready]
 simp only [rdq, roOf, Bool.and_eq_true, allq_iff, List.mem_map, List.mem_filter, Bool.not_eq_true']
 constructor
 ·rintro ⟨h1, h2⟩
  refine ⟨getD_back (by omega) (by rw [hb]; exact h1), o, hj, fun e he hbd => ?_⟩
  rw [hb]
  exact h2 e.on ⟨e, ⟨by simpa using he, hbd⟩, rfl⟩
 ·rintro ⟨h1, o', ho', h2⟩
  rw [hj] at ho'; cases ho'
  refine ⟨by rw [← hb]; exact getD_two h1, ?_⟩
  rintro x ⟨e, ⟨he, hbd⟩, rfl⟩
  rw [← hb]
  exact h2 e (by simpa using he) hbd
theorem seqH_held {D : List Ro} (hD : ops.toList.map (roOf md ops) = D) (hs : Region.noSelect ops = true) :
  ∀ (o : List (Bool × Nat)) (m fuel : Nat) (listed : Array Bool) (a : Act) (w : World), listed.size = ops.size → (∀ j, listed.getD j false = bitq m j) → chkq D o m = true → o.length ≤ fuel → S w → seqH P ops Q S o a w → wpAnyH P md ops Q S fuel listed a w := by
 have hat : ∀ {j oj}, ops[j]? = some oj → D[j]? = some (roOf md ops oj) := fun {j oj} h => by
  rw [← hD, List.getElem?_map, Array.getElem?_toList, h]; rfl
 intro o
 induction o with
 | nil =>
  intro m fuel listed a w hn hb hc _ _ h
  refine wpAnyH_done ?_ h _
  refine List.eq_nil_iff_forall_not_mem.2 fun j hj => ?_
  obtain ⟨h1, oj, hoj, _⟩ := mem_ready.1 hj
  have h2 := upq_at (k := 0) hc (hat hoj)
  rw [Nat.zero_add, ← hb, getD_two h1] at h2
  cases h2
 | cons x r ih =>
  intro m fuel listed a w hn hb hc hl hS h
  obtain ⟨b, i⟩ := x
  obtain ⟨fuel, rfl⟩ : ∃ k, fuel = k + 1 := ⟨fuel - 1, by simp at hl; omega⟩
  have hl' : r.length ≤ fuel := by simp at hl; omega
  simp only [chkq, Bool.and_eq_true] at hc
  obtain ⟨hc1, hc2⟩ := hc
  cases hx : D[i]? with
  | none => simp [hx] at hc1
  | some x =>
   have hi : i < ops.size := by
    have := (List.getElem?_eq_some_iff.1 hx).1
    rw [← hD] at this
    simpa using this
   have hoi : ops[i]? = some ops[i] := Array.getElem?_eq_getElem hi
   have hxe : x = roOf md ops ops[i] := by have := hat hoi; rw [hx] at this; cases this; rfl
   have hset := getD_sets hn hi hb
   have hsz : (listed.setIfInBounds i true).size = ops.size := by simpa using hn
   rw [hx] at hc1
   cases b with
   | false =>
    simp only [Bool.and_eq_true] at hc1
    obtain ⟨hf, hr⟩ := hc1
    obtain ⟨oi, v, hoi', hy, hQ, h⟩ := h
    rw [hoi] at hoi'; cases hoi'
    refine wpAnyH_first hoi (Region.noSelect_spec hs) hQ fuel listed a w ?_ ((rdq_iff hn hb hoi).1 (hxe ▸ hr)) hy hS (ih _ fuel _ _ w hsz hset hc2 hl' hS h)
    intro j oj hoj hne hun hno
    have h1 := frq_at (k := 0) hf (hat hoj)
    rw [Nat.zero_add, ← hb, getD_two hun] at h1
    have h2 : Nat.beq j i = false := by
     cases h3 : Nat.beq j i with
     | false => rfl
     | true => exact absurd (Nat.eq_of_beq_eq_true h3) hne
    rw [h2] at h1
    simp only [Bool.false_or, Bool.or_eq_true] at h1
    rcases h1 with h1 | h1
    ·rw [inq_iff] at h1
     simp only [roOf, List.mem_map, List.mem_filter] at h1
     obtain ⟨e, ⟨he, hbd⟩, hon⟩ := h1
     exact absurd hon (hno e (by simpa using he) hbd)
    ·exact aptq_apart (hxe ▸ h1)
   | true =>
    have hone : ∀ j ∈ Region.ready md ops listed, j = i := fun j hj => by
     obtain ⟨_, oj, hoj, _⟩ := mem_ready.1 hj
     have := (onq_at (k := 0) hc1 (hat hoj)).1 (by rw [Nat.zero_add]; exact (rdq_iff hn hb hoj).2 hj)
     omega
    have hin : i ∈ Region.ready md ops listed := (rdq_iff hn hb hoi).1 (by
     have := (onq_at (k := 0) hc1 (hat hoi)).2 (by omega)
     rwa [Nat.zero_add] at this)
    refine ⟨fun h0 => (by rw [h0] at hin; cases hin), fun j hj => ?_⟩
    obtain rfl := hone j hj
    exact wpOp_mono (fun a' w' h' => ⟨h'.1, ih _ fuel _ a' w' hsz hset hc2 hl' h'.1 h'.2⟩) h
theorem wp_region_seq {id : Nat} {a : Act} {w : World} {D : List Ro} (o : List (Bool × Nat)) (hm : P.follows .mixedOrders = true) (hD : ops.toList.map (roOf .any ops) = D) (hs : Region.noSelect ops = true) (hc : chkq D o 0 = true) (hl : Nat.ble o.length ops.size = true) (hS : S w.drew)
  (h : S w.drew → seqH P ops Q S o a w.drew) : (Code.region id ops true).wp P Q a w :=
 wp_region_held hm (seqH_held hD hs o 0 _ _ a _ (by simp) (fun j => by rw [bitq_zero, Array.getD_eq_getD_getElem?]; by_cases hj : j < ops.size <;> simp [hj]) hc (Nat.le_of_ble_eq_true hl) hS (h hS))
end
end Go.Proofs.YteckiednnaianaaGreat
