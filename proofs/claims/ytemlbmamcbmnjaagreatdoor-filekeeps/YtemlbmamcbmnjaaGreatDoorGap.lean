import Derived.WalkKit
import Derived.Maps.Own
import Derived.Maps.Ext
import Derived.Sort.EncStr
import Derived.Sort.KeysCollected
import Derived.Maps.Views
namespace Go.Proofs.YtemlbmamcbmnjaaGreatDoor
section
set_option linter.unusedVariables false
set_option linter.unusedSimpArgs false

namespace Dsk
abbrev By := List UInt8

inductive Ch where
  | wr (a : Nat) (d : By)
  | cut (a : Nat)

namespace Ch
def units : Ch → Nat
  | .wr _ d => d.length
  | .cut _ => 1
def place : Ch → Nat
  | .wr a _ => a
  | .cut a => a
/-- n of its units are made on these bytes. -/
def apply : Ch → By → Nat → By
  | .wr a d, b, n => b.take a ++ d.take n ++ b.drop (a + (d.take n).length)
  | .cut a, b, _ => b.take a
theorem apply_len (c : Ch) (b : By) (n : Nat) (h : c.place ≤ b.length) : (c.apply b n).length ≤ b.length + min n c.units := by
  cases c with
  | wr a d => simp only [apply, units, place, List.length_append, List.length_take, List.length_drop] at *; omega
  | cut a => simp only [apply, List.length_take]; omega
end Ch

def runs : By → List Ch → By
  | b, [] => b
  | b, c :: r => runs (c.apply b c.units) r
def fits : By → List Ch → Prop
  | _, [] => True
  | b, c :: r => c.place ≤ b.length ∧ fits (c.apply b c.units) r
def unitsOf : List Ch → Nat
  | [] => 0
  | c :: r => c.units + unitsOf r
/-- The first n units of a row are made. -/
def torn : By → List Ch → Nat → By
  | b, [], _ => b
  | b, c :: r, n => if n = 0 then b else torn (c.apply b (min n c.units)) r (n - min n c.units)

theorem runs_snoc (b : By) (r : List Ch) (c : Ch) : runs b (r ++ [c]) = c.apply (runs b r) c.units := by
  induction r generalizing b with
  | nil => rfl
  | cons x r ih => simp only [List.cons_append, runs, ih]
theorem fits_snoc (b : By) (r : List Ch) (c : Ch) : fits b (r ++ [c]) ↔ fits b r ∧ c.place ≤ (runs b r).length := by
  induction r generalizing b with
  | nil => simp [fits, runs]
  | cons x r ih => simp only [List.cons_append, fits, runs, ih, and_assoc]
theorem unitsOf_snoc (r : List Ch) (c : Ch) : unitsOf (r ++ [c]) = unitsOf r + c.units := by
  induction r with
  | nil => simp [unitsOf]
  | cons x r ih => simp only [List.cons_append, unitsOf, ih]; omega
theorem runs_len (b : By) (r : List Ch) (h : fits b r) : (runs b r).length ≤ b.length + unitsOf r := by
  induction r generalizing b with
  | nil => simp [runs, unitsOf]
  | cons x r ih =>
    have h1 := ih _ h.2
    have h2 := x.apply_len b x.units h.1
    simp only [runs, unitsOf]
    omega
theorem torn_zero (b : By) (r : List Ch) : torn b r 0 = b := by
  cases r <;> simp [torn]
theorem torn_len (b : By) (r : List Ch) (n : Nat) (h : fits b r) : (torn b r n).length ≤ b.length + unitsOf r := by
  induction r generalizing b n with
  | nil => simp [torn, unitsOf]
  | cons c r ih =>
    simp only [torn, unitsOf]
    split
    · omega
    · by_cases hn : c.units ≤ n
      · rw [Nat.min_eq_right hn]
        have h1 := ih _ (n - c.units) h.2
        have h2 := c.apply_len b c.units h.1
        omega
      · rw [Nat.min_eq_left (by omega), Nat.sub_self, torn_zero]
        have h2 := c.apply_len b n h.1
        omega
/-- Where all units are made, all changes are. -/
theorem torn_all (b : By) (r : List Ch) : torn b r (unitsOf r) = runs b r := by
  induction r generalizing b with
  | nil => rfl
  | cons c r ih =>
    have hu : unitsOf (c :: r) = c.units + unitsOf r := rfl
    have ht : torn b (c :: r) (unitsOf (c :: r)) = if c.units + unitsOf r = 0 then b else torn (c.apply b c.units) r (unitsOf r) := by
      rw [hu]
      simp only [torn]
      rw [Nat.min_eq_right (by omega), Nat.add_sub_cancel_left]
    rw [ht, ih]
    show _ = runs (c.apply b c.units) r
    by_cases h : c.units + unitsOf r = 0
    · rw [if_pos h]
      have h1 : c.units = 0 := by omega
      have h2 : unitsOf r = 0 := by omega
      have h3 : c.apply b c.units = b := by
        cases c with
        | wr a d => simp only [Ch.units, List.length_eq_zero_iff] at h1; subst h1; simp [Ch.apply]
        | cut a => simp [Ch.units] at h1
      rw [h3]
      clear ih h h3 ht hu
      induction r generalizing b with
      | nil => rfl
      | cons x r ih2 =>
        simp only [unitsOf] at h2
        have h4 : x.apply b x.units = b := by
          cases x with
          | wr a d => simp only [Ch.units] at h2; have : d = [] := List.length_eq_zero_iff.1 (by omega); subst this; simp [Ch.apply]
          | cut a => simp only [Ch.units] at h2; omega
        have h5 : unitsOf r = 0 := by omega
        simp only [runs, h4]
        exact ih2 b h5
    · rw [if_neg h]

/-! ### names -/
abbrev Nm := List (By × Nat)
namespace Nm
def del (l : Nm) (n : By) : Nm := l.filter (fun p => !(p.1 == n))
def ins (x : By × Nat) : Nm → Nm
  | [] => [x]
  | y :: r => if bytesBefore x.1 y.1 then x :: y :: r else y :: ins x r
def put (l : Nm) (n : By) (k : Nat) : Nm := ins (n, k) (l.del n)
def get (l : Nm) (n : By) : Option Nat := (l.find? (fun p => p.1 == n)).map (·.2)
/-- Rising names. -/
def Up (l : Nm) : Prop := l.Pairwise (fun p q => bytesBefore p.1 q.1 = true)
def ids (l : Nm) : List Nat := l.map (·.2)
def keys (l : Nm) : List By := l.map (·.1)
end Nm

theorem before_irrefl (a : By) : bytesBefore a a = false := by
  induction a with
  | nil => rfl
  | cons x r ih => simp [bytesBefore, ih]
theorem before_trans {a b c : By} (h : bytesBefore a b = true) (h2 : bytesBefore b c = true) : bytesBefore a c = true := by
  induction a generalizing b c with
  | nil => cases b with
    | nil => simp [bytesBefore] at h
    | cons y s => cases c with
      | nil => simp [bytesBefore] at h2
      | cons z t => rfl
  | cons x r ih => cases b with
    | nil => simp [bytesBefore] at h
    | cons y s => cases c with
      | nil => simp [bytesBefore] at h2
      | cons z t =>
        simp only [bytesBefore, Bool.or_eq_true, Bool.and_eq_true, decide_eq_true_eq, beq_iff_eq] at *
        rcases h with h | ⟨rfl, h⟩
        · rcases h2 with h2 | ⟨rfl, h2⟩
          · exact .inl (UInt8.lt_trans h h2)
          · exact .inl h
        · rcases h2 with h2 | ⟨rfl, h2⟩
          · exact .inl h2
          · exact .inr ⟨rfl, ih h h2⟩
theorem before_total {a b : By} (h : bytesBefore a b = false) (hne : a ≠ b) : bytesBefore b a = true := by
  induction a generalizing b with
  | nil => cases b with
    | nil => exact absurd rfl hne
    | cons y s => simp [bytesBefore] at h
  | cons x r ih => cases b with
    | nil => rfl
    | cons y s =>
      simp only [bytesBefore, Bool.or_eq_false_iff, Bool.and_eq_false_iff, decide_eq_false_iff_not, beq_eq_false_iff_ne, Bool.or_eq_true, Bool.and_eq_true, decide_eq_true_eq, beq_iff_eq] at *
      by_cases e : x = y
      · subst e
        exact .inr ⟨rfl, ih (by rcases h.2 with h2 | h2; exact absurd rfl h2; exact h2) (fun e => hne (by rw [e]))⟩
      · left
        have h1 := h.1
        rw [UInt8.lt_iff_toNat_lt] at *
        have : x.toNat ≠ y.toNat := fun e2 => e (UInt8.toNat_inj.1 e2)
        omega

namespace Nm
theorem mem_ins {x y : By × Nat} {l : Nm} : y ∈ ins x l ↔ y = x ∨ y ∈ l := by
  induction l with
  | nil => simp [ins]
  | cons z r ih =>
    simp only [ins]
    split
    · simp
    · simp [ih, or_left_comm]
theorem mem_del {l : Nm} {n : By} {p : By × Nat} : p ∈ l.del n ↔ p ∈ l ∧ p.1 ≠ n := by simp [del]
theorem mem_put {l : Nm} {n : By} {k : Nat} {p : By × Nat} : p ∈ l.put n k ↔ p = (n, k) ∨ (p ∈ l ∧ p.1 ≠ n) := by rw [put, mem_ins, mem_del]
theorem Up.del {l : Nm} (h : Up l) (n : By) : Up (l.del n) := h.filter _
theorem Up.ins {x : By × Nat} {l : Nm} (h : Up l) (hn : ∀ p ∈ l, p.1 ≠ x.1) : Up (ins x l) := by
  induction l with
  | nil => simp [Nm.ins, Up]
  | cons y r ih =>
    have h' := List.pairwise_cons.1 h
    simp only [Nm.ins]
    split
    · rename_i hb
      refine List.pairwise_cons.2 ⟨fun p hp => ?_, h⟩
      rcases List.mem_cons.1 hp with rfl | hp
      · exact hb
      · exact before_trans hb (h'.1 p hp)
    · rename_i hb
      refine List.pairwise_cons.2 ⟨fun p hp => ?_, ih h'.2 (fun p hp => hn p (by simp [hp]))⟩
      rcases mem_ins.1 hp with rfl | hp
      · exact before_total (by simpa using hb) (fun e => hn y (by simp) e.symm)
      · exact h'.1 p hp
theorem Up.put {l : Nm} (h : Up l) (n : By) (k : Nat) : Up (l.put n k) := (h.del n).ins (fun p hp => (mem_del.1 hp).2)
theorem Up.uniq {l : Nm} (h : Up l) {n : By} {j k : Nat} (hj : (n, j) ∈ l) (hk : (n, k) ∈ l) : j = k := by
  induction l with
  | nil => simp at hj
  | cons x r ih =>
    have h' := List.pairwise_cons.1 h
    rcases List.mem_cons.1 hj with e | hj <;> rcases List.mem_cons.1 hk with e2 | hk
    · rw [← e] at e2; injection e2 with _ e2; exact e2.symm
    · have := h'.1 _ hk; rw [← e, before_irrefl] at this; cases this
    · have := h'.1 _ hj; rw [← e2, before_irrefl] at this; cases this
    · exact ih h'.2 hj hk
theorem get_some {l : Nm} (h : Up l) {n : By} {k : Nat} : l.get n = some k ↔ (n, k) ∈ l := by
  constructor
  · intro hg
    simp only [get, Option.map_eq_some_iff] at hg
    obtain ⟨p, hp, rfl⟩ := hg
    have h1 := List.mem_of_find?_eq_some hp
    have h2 := List.find?_some hp
    simp only [beq_iff_eq] at h2
    rw [← h2]
    exact h1
  · intro hm
    cases hf : l.find? (fun p => p.1 == n) with
    | none => have := List.find?_eq_none.1 hf _ hm; simp at this
    | some p =>
      have h1 := List.mem_of_find?_eq_some hf
      have h2 := List.find?_some hf
      simp only [beq_iff_eq] at h2
      simp only [get, hf, Option.map_some, Option.some.injEq]
      exact h.uniq (n := n) (by rw [← h2]; exact h1) hm
theorem get_none {l : Nm} {n : By} : l.get n = none ↔ ∀ p ∈ l, p.1 ≠ n := by
  simp [get, List.find?_eq_none]
theorem ins_length (x : By × Nat) (l : Nm) : (ins x l).length = l.length + 1 := by
  induction l with
  | nil => rfl
  | cons y r ih => simp only [ins]; split <;> simp [ih]
theorem del_length_le (l : Nm) (n : By) : (l.del n).length ≤ l.length := List.length_filter_le _ _
theorem put_length_le (l : Nm) (n : By) (k : Nat) : (l.put n k).length ≤ l.length + 1 := by rw [put, ins_length]; have := del_length_le l n; omega
theorem ins_perm (x : By × Nat) (l : Nm) : (ins x l).Perm (x :: l) := by
  induction l with
  | nil => exact .refl _
  | cons y r ih =>
    simp only [ins]
    split
    · exact .refl _
    · exact (ih.cons y).trans (.swap _ _ _)
theorem del_none {l : Nm} {n : By} (h : ∀ p ∈ l, p.1 ≠ n) : l.del n = l := List.filter_eq_self.2 (fun p hp => by simp [h p hp])
theorem del_ins {x : By × Nat} {n : By} (hne : x.1 ≠ n) (l : Nm) (h : Up l) (hx : ∀ p ∈ l, p.1 ≠ x.1) : (ins x l).del n = ins x (l.del n) := by
  induction l with
  | nil => simp [ins, del, hne]
  | cons y r ih =>
    have h' := List.pairwise_cons.1 h
    have ih' := ih h'.2 (fun p hp => hx p (by simp [hp]))
    by_cases hy : y.1 = n
    · simp only [ins]
      split
      · rename_i hb
        have e1 : del (x :: y :: r) n = x :: del r n := by simp [del, hne, hy]
        have e2 : del (y :: r) n = del r n := by simp [del, hy]
        rw [e1, e2]
        cases hr : del r n with
        | nil => rfl
        | cons z s =>
          have hz : z ∈ r := (mem_del.1 (by rw [hr]; simp : z ∈ del r n)).1
          simp only [ins]
          rw [if_pos (before_trans hb (h'.1 z hz))]
      · have e1 : del (y :: ins x r) n = del (ins x r) n := by simp [del, hy]
        have e2 : del (y :: r) n = del r n := by simp [del, hy]
        rw [e1, e2, ih']
    · have e2 : del (y :: r) n = y :: del r n := by simp [del, hy]
      rw [e2]
      simp only [ins]
      split
      · simp [del, hne, hy]
      · have e1 : del (y :: ins x r) n = y :: del (ins x r) n := by simp [del, hy]
        rw [e1, ih']
theorem del_comm (l : Nm) (a b : By) : (l.del a).del b = (l.del b).del a := by simp [del, List.filter_filter, Bool.and_comm]
/-- Giving and then striking is striking and then giving. -/
theorem put_del {l : Nm} (h : Up l) {f t : By} (hne : f ≠ t) (k : Nat) : (l.put t k).del f = (l.del f).put t k := by
  rw [put, put, del_ins (fun e => hne e.symm) _ (h.del t) (fun p hp => (mem_del.1 hp).2), del_comm]
end Nm

inductive Nc where
  | mk (n : By) (k : Nat)
  | gv (f t : By)
  | tk (n : By)
namespace Nc
def apply : Nc → Nm → Nm
  | .mk n k, l => l.put n k
  | .gv f t, l => match l.get f with
    | some k => (l.put t k).del f
    | none => l
  | .tk n, l => l.del n
def ok (l : Nm) : Nc → Prop
  | .mk _ _ => True
  | .gv f t => f ≠ t ∧ ∃ k, l.get f = some k
  | .tk _ => True
def made : Nc → List Nat
  | .mk _ k => [k]
  | _ => []
end Nc
def runN : Nm → List Nc → Nm
  | l, [] => l
  | l, c :: r => runN (c.apply l) r
def okN : Nm → List Nc → Prop
  | _, [] => True
  | l, c :: r => c.ok l ∧ okN (c.apply l) r
def madeN (r : List Nc) : List Nat := r.flatMap Nc.made
theorem runN_snoc (l : Nm) (r : List Nc) (c : Nc) : runN l (r ++ [c]) = c.apply (runN l r) := by
  induction r generalizing l with
  | nil => rfl
  | cons x r ih => simp only [List.cons_append, runN, ih]
theorem okN_snoc (l : Nm) (r : List Nc) (c : Nc) : okN l (r ++ [c]) ↔ okN l r ∧ c.ok (runN l r) := by
  induction r generalizing l with
  | nil => simp [okN, runN]
  | cons x r ih => simp only [List.cons_append, okN, runN, ih, and_assoc]
theorem okN_take (l : Nm) (r : List Nc) (n : Nat) (h : okN l r) : okN l (r.take n) := by
  induction r generalizing l n with
  | nil => simpa using h
  | cons x r ih =>
    cases n with
    | zero => simp [okN]
    | succ n => exact ⟨h.1, ih _ n h.2⟩

theorem apply_up {l : Nm} (h : l.Up) (c : Nc) : (c.apply l).Up := by
  cases c with
  | mk n k => exact h.put n k
  | gv f t =>
    simp only [Nc.apply]
    split
    · exact (h.put _ _).del _
    · exact h
  | tk n => exact h.del n
theorem runN_up {l : Nm} (h : l.Up) (r : List Nc) : (runN l r).Up := by
  induction r generalizing l with
  | nil => exact h
  | cons c r ih => exact ih (apply_up h c)
theorem apply_len (l : Nm) (c : Nc) : (c.apply l).length ≤ l.length + 1 := by
  cases c with
  | mk n k => exact Nm.put_length_le l n k
  | gv f t =>
    simp only [Nc.apply]
    split
    · exact Nat.le_trans (Nm.del_length_le _ _) (Nm.put_length_le l _ _)
    · omega
  | tk n => exact Nat.le_trans (Nm.del_length_le l n) (by omega)
theorem runN_len (l : Nm) (r : List Nc) : (runN l r).length ≤ l.length + r.length := by
  induction r generalizing l with
  | nil => simp [runN]
  | cons c r ih => have := ih (c.apply l); have := apply_len l c; simp only [runN, List.length_cons]; omega
end Dsk
end

section
set_option linter.unusedVariables false
set_option linter.unusedSimpArgs false
namespace Dsk

structure Th where
  safe : By
  row : List Ch
  shown : By
def Th.new : Th := ⟨[], [], []⟩
def Th.ok (t : Th) : Prop := fits t.safe t.row ∧ t.shown = runs t.safe t.row
def Th.change (t : Th) (c : Ch) : Th := ⟨t.safe, t.row ++ [c], c.apply t.shown c.units⟩
def Th.sync (t : Th) : Th := ⟨t.shown, [], t.shown⟩
def rnd (p : Int) (n : Nat) : Nat := (p % ((n : Int) + 1)).toNat
def Th.crash (t : Th) (p : Int) : Th := ⟨torn t.safe t.row (rnd p (unitsOf t.row)), [], torn t.safe t.row (rnd p (unitsOf t.row))⟩

theorem rnd_le (p : Int) (n : Nat) : rnd p n ≤ n := by
  unfold rnd
  have h1 := Int.emod_nonneg p (b := (n : Int) + 1) (by omega)
  have h2 := Int.emod_lt_of_pos p (b := (n : Int) + 1) (by omega)
  omega

theorem Th.new_ok : Th.new.ok := ⟨trivial, rfl⟩
theorem Th.ok.change {t : Th} (h : t.ok) {c : Ch} (hc : c.place ≤ t.shown.length) : (t.change c).ok := by
  refine ⟨(fits_snoc _ _ _).2 ⟨h.1, by show c.place ≤ (runs t.safe t.row).length; rw [← h.2]; exact hc⟩, ?_⟩
  show c.apply t.shown c.units = runs t.safe (t.row ++ [c])
  rw [runs_snoc, ← h.2]
theorem Th.sync_ok (t : Th) : t.sync.ok := ⟨trivial, rfl⟩
theorem Th.crash_ok (t : Th) (p : Int) : (t.crash p).ok := ⟨trivial, rfl⟩

structure Span where
  name : By
  at_ : Nat
  n : Nat

/-- A disk. -/
structure Ds where
  room : Nat
  on : Bool
  safe : Nm
  row : List Nc
  shown : Nm
  th : Nat → Th
  nx : Nat
  strokes : Nat
  off : Int
  from_ : Int
  to : Int
  planned : Nat
  reads : List Span

def okByte (c : UInt8) : Bool := (97 ≤ c && c ≤ 122) || (48 ≤ c && c ≤ 57) || c == 46 || c == 45 || c == 95 || c == 43
def isNm (n : By) : Bool := decide (1 ≤ n.length) && decide (n.length ≤ 112) && n.all okByte

def upd {α : Type} (f : Nat → α) (k : Nat) (a : α) : Nat → α := fun j => if j = k then a else f j
theorem upd_same {α : Type} (f : Nat → α) (k : Nat) (a : α) : upd f k a k = a := by simp [upd]
theorem upd_other {α : Type} (f : Nat → α) {k j : Nat} (a : α) (h : j ≠ k) : upd f k a j = f j := by simp [upd, h]

namespace Ds
def used (S : Ds) : Nat := (S.shown.map (fun p => (S.th p.2).shown.length)).sum
def lacks (S : Ds) : Bool := decide (S.from_ ≤ (S.planned : Int) + 1) && decide ((S.planned : Int) + 1 ≤ S.to)
/-- Is it refused for room, that so many bytes come? -/
def full (S : Ds) (more : Int) : Bool := S.lacks || (decide (0 < more) && decide ((S.room : Int) < S.used + more))
def goesOff (S : Ds) : Bool := decide ((S.planned : Int) + 1 = S.off)
/-- A stroke. -/
def tick (S : Ds) : Ds := { S with strokes := S.strokes + 1, planned := S.planned + 1, on := S.on && !S.goesOff }
/-- What it answers. -/
def ans (S : Ds) (refused : Int) : Int := if S.goesOff then 50 else refused

/-- Why there is no thing of that name, or 0 and the thing. -/
def find (S : Ds) (n : By) : Int × Nat :=
  if S.on then (if isNm n then (match S.shown.get n with | some k => (0, k) | none => (53, 0)) else (51, 0)) else (50, 0)

def addName (S : Ds) (c : Nc) : Ds := { S with row := S.row ++ [c], shown := c.apply S.shown }
def addByte (S : Ds) (k : Nat) (c : Ch) : Ds := { S with th := upd S.th k ((S.th k).change c) }

def refusedCreate (S : Ds) : Int := if 256 ≤ S.shown.length then 56 else if S.lacks then 55 else 0
def create (S : Ds) (n : By) : Int × Ds :=
  if (S.find n).1 = 0 then (52, S)
  else if (S.find n).1 ≠ 53 then ((S.find n).1, S)
  else if S.refusedCreate = 0 then (S.ans 0, ({ S.tick with th := upd S.th S.nx Th.new, nx := S.nx + 1 } : Ds).addName (.mk n S.nx))
  else (S.ans S.refusedCreate, S.tick)

def write (S : Ds) (k : Nat) (a : Nat) (d : By) : Int × Ds :=
  if S.full ((a : Int) + d.length - (S.th k).shown.length) then (S.ans 55, S.tick)
  else (S.ans 0, S.tick.addByte k (.wr a d))
def writeAt (S : Ds) (n : By) (a : Int) (d : By) : Int × Ds :=
  if (S.find n).1 ≠ 0 then ((S.find n).1, S)
  else if a < 0 ∨ (S.th (S.find n).2).shown.length < a then (54, S)
  else S.write (S.find n).2 a.toNat d
def append (S : Ds) (n : By) (d : By) : Int × Ds :=
  if (S.find n).1 ≠ 0 then ((S.find n).1, S) else S.write (S.find n).2 (S.th (S.find n).2).shown.length d
def truncate (S : Ds) (n : By) (a : Int) : Int × Ds :=
  if (S.find n).1 ≠ 0 then ((S.find n).1, S)
  else if a < 0 ∨ (S.th (S.find n).2).shown.length < a then (54, S)
  else (S.ans 0, S.tick.addByte (S.find n).2 (.cut a.toNat))
def rename (S : Ds) (f t : By) : Int × Ds :=
  if S.on then
    (if isNm t then
      (if (S.find f).1 ≠ 0 then ((S.find f).1, S)
       else if f = t then (S.ans 0, S.tick) else (S.ans 0, S.tick.addName (.gv f t)))
     else (51, S))
  else (50, S)
def remove (S : Ds) (n : By) : Int × Ds :=
  if (S.find n).1 ≠ 0 then ((S.find n).1, S) else (S.ans 0, S.tick.addName (.tk n))
def sync (S : Ds) (n : By) : Int × Ds :=
  if (S.find n).1 ≠ 0 then ((S.find n).1, S)
  else if S.goesOff then (50, S.tick) else (0, { S.tick with th := upd S.th (S.find n).2 (S.th (S.find n).2).sync })
def syncNames (S : Ds) : Int × Ds :=
  if S.on then (if S.goesOff then (50, S.tick) else (0, { S.tick with safe := S.shown, row := [] })) else (50, S)
def readOk (S : Ds) (n : By) (a m : Int) : Int :=
  if (S.find n).1 ≠ 0 then (S.find n).1
  else if a < 0 ∨ m < 0 ∨ ((S.th (S.find n).2).shown.length : Int) < a ∨ ((S.th (S.find n).2).shown.length : Int) - a < m then 54 else 0
def readBytes (S : Ds) (n : By) (a m : Int) : By := if S.readOk n a m = 0 then ((S.th (S.find n).2).shown.drop a.toNat).take m.toNat else []
def read (S : Ds) (n : By) (a m : Int) : Ds := if S.readOk n a m = 0 then { S with reads := S.reads ++ [⟨n, a.toNat, m.toNat⟩] } else S
def size (S : Ds) (n : By) : Int := if (S.find n).1 ≠ 0 then 0 else (S.th (S.find n).2).shown.length
def list (S : Ds) (p : By) : List By := if S.on then S.shown.keys.filter (fun n => p.isPrefixOf n) else []
def setPlan (S : Ds) (o f t : Int) : Ds := if S.on then { S with off := o, from_ := f, to := t, planned := 0 } else S
def files (S : Ds) : List (By × By) := S.shown.map (fun p => (p.1, (S.th p.2).shown))
def safeFiles (S : Ds) : List (By × By) := S.safe.map (fun p => (p.1, (S.th p.2).safe))
def look (S : Ds) : Ds := { S with reads := [] }

/-- The things of these names behind a crash: i of them have had their picks. -/
def crashTh (ps : List Int) : Nat → Nm → (Nat → Th) → (Nat → Th)
  | _, [], th => th
  | i, p :: r, th => crashTh ps (i + 1) r (upd th p.2 ((th p.2).crash (ps.getD (i + 1) 0)))
def crashNm (S : Ds) (ps : List Int) : Nm := runN S.safe (S.row.take (rnd (ps.getD 0 0) S.row.length))
def crash (S : Ds) (ps : List Int) : Ds :=
  { S with on := true, safe := S.crashNm ps, row := [], shown := S.crashNm ps, th := crashTh ps 0 (S.crashNm ps) S.th, strokes := 0, off := 0, from_ := 0, to := 0, planned := 0 }
def fresh (room : Nat) : Ds := ⟨room, true, [], [], [], fun _ => Th.new, 0, 0, 0, 0, 0, 0, []⟩

/-- What always holds of a disk. -/
structure Wf (S : Ds) : Prop where
  room : 1 ≤ S.room ∧ S.room ≤ 1048576
  up : S.safe.Up
  shown : S.shown = runN S.safe S.row
  ok : okN S.safe S.row
  nodup : (S.safe.ids ++ madeN S.row).Nodup
  lt : ∀ k ∈ S.safe.ids ++ madeN S.row, k < S.nx
  nm : ∀ p ∈ S.safe, isNm p.1 = true
  nmr : ∀ c ∈ S.row, match c with | .mk n _ => isNm n = true | .gv f t => isNm f = true ∧ isNm t = true | .tk n => isNm n = true
  th : ∀ k, k < S.nx → (S.th k).ok

/-- How much there is of it. -/
structure Bd (S : Ds) (N : Nat) : Prop where
  nm : S.safe.length + S.row.length ≤ N
  th : ∀ k, k < S.nx → (S.th k).safe.length + unitsOf (S.th k).row + (S.th k).row.length ≤ N
  reads : S.reads.length ≤ N
  strokes : S.strokes ≤ N
  planned : S.planned ≤ N
end Ds
end Dsk
end

section
set_option linter.unusedVariables false
set_option linter.unusedSimpArgs false
namespace Dsk
namespace Nm
theorem ids_del_sub (l : Nm) (n : By) : (l.del n).ids.Sublist l.ids := List.filter_sublist.map _
theorem ids_put_perm (l : Nm) (n : By) (k : Nat) : (l.put n k).ids.Perm (k :: (l.del n).ids) := by
  have := (ins_perm (n, k) (l.del n)).map (fun p : By × Nat => p.2)
  exact this
theorem mem_ids {l : Nm} {k : Nat} : k ∈ l.ids ↔ ∃ n, (n, k) ∈ l := by
  simp [ids]
end Nm

theorem madeN_cons (c : Nc) (r : List Nc) : madeN (c :: r) = c.made ++ madeN r := by simp [madeN]
theorem madeN_append (r s : List Nc) : madeN (r ++ s) = madeN r ++ madeN s := by simp [madeN]
theorem madeN_snoc (r : List Nc) (c : Nc) : madeN (r ++ [c]) = madeN r ++ c.made := by rw [madeN_append]; simp [madeN]

theorem apply_ids_sub {l : Nm} (c : Nc) {k : Nat} (h : k ∈ (c.apply l).ids) : k ∈ l.ids ++ c.made := by
  cases c with
  | mk n j =>
    have := (l.ids_put_perm n j).mem_iff.1 h
    rcases List.mem_cons.1 this with rfl | h1
    · simp [Nc.made]
    · exact List.mem_append_left _ ((l.ids_del_sub n).subset h1)
  | gv f t =>
    simp only [Nc.apply] at h
    refine List.mem_append_left _ ?_
    cases hg : l.get f with
    | none => rw [hg] at h; exact h
    | some j =>
      rw [hg] at h
      have h1 := ((l.put t j).ids_del_sub f).subset h
      have := (l.ids_put_perm t j).mem_iff.1 h1
      rcases List.mem_cons.1 this with rfl | h2
      · simp only [Nm.get, Option.map_eq_some_iff] at hg
        obtain ⟨p, hp, e⟩ := hg
        have := List.mem_of_find?_eq_some hp
        exact List.mem_map.2 ⟨p, this, e⟩
      · exact (l.ids_del_sub t).subset h2
  | tk n => exact List.mem_append_left _ ((l.ids_del_sub n).subset h)

theorem apply_ids_nodup {l : Nm} (hup : l.Up) (c : Nc) (hok : c.ok l) (h : (l.ids ++ c.made).Nodup) : (c.apply l).ids.Nodup := by
  cases c with
  | mk n j =>
    rw [show (Nc.mk n j).apply l = l.put n j from rfl, (l.ids_put_perm n j).nodup_iff]
    simp only [Nc.made, List.nodup_append, List.mem_singleton] at h
    refine List.nodup_cons.2 ⟨fun hm => ?_, h.1.sublist (l.ids_del_sub n)⟩
    exact h.2.2 _ ((l.ids_del_sub n).subset hm) _ rfl rfl
  | gv f t =>
    obtain ⟨hne, j, hg⟩ := hok
    have hl : l.ids.Nodup := by simpa [Nc.made] using h
    have e : (Nc.gv f t).apply l = (l.del f).put t j := by simp only [Nc.apply, hg]; exact Nm.put_del hup hne j
    rw [e, ((l.del f).ids_put_perm t j).nodup_iff]
    have hmem := (Nm.get_some hup).1 hg
    refine List.nodup_cons.2 ⟨fun hm => ?_, hl.sublist (((l.del f).ids_del_sub t).trans (l.ids_del_sub f))⟩
    have h1 := ((l.del f).ids_del_sub t).subset hm
    obtain ⟨n, hn⟩ := Nm.mem_ids.1 h1
    obtain ⟨h2, h3⟩ := Nm.mem_del.1 hn
    clear e hm h1 hn
    induction l with
    | nil => simp at h2
    | cons x r ih =>
      have hl' := List.nodup_cons.1 hl
      rcases List.mem_cons.1 h2 with e1 | h2 <;> rcases List.mem_cons.1 hmem with e2 | h4
      · rw [← e1] at e2; injection e2 with e2 _; exact h3 e2.symm
      · exact hl'.1 (by rw [← e1]; exact Nm.mem_ids.2 ⟨_, h4⟩)
      · exact hl'.1 (by rw [← e2]; exact Nm.mem_ids.2 ⟨_, h2⟩)
      · refine ih (List.pairwise_cons.1 hup).2 (by simp only [Nc.made, List.append_nil]; exact hl'.2) ?_ hl'.2 h4 h2
        exact (Nm.get_some (List.pairwise_cons.1 hup).2).2 h4
  | tk n => exact (by simpa [Nc.made] using h : l.ids.Nodup).sublist (l.ids_del_sub n)

theorem runN_ids_sub {l : Nm} (r : List Nc) {k : Nat} (h : k ∈ (runN l r).ids) : k ∈ l.ids ++ madeN r := by
  induction r generalizing l with
  | nil => simpa [runN, madeN] using h
  | cons c r ih =>
    rw [madeN_cons]
    have := ih h
    rcases List.mem_append.1 this with h1 | h1
    · have := apply_ids_sub c h1
      rcases List.mem_append.1 this with h2 | h2
      · exact List.mem_append_left _ h2
      · exact List.mem_append_right _ (List.mem_append_left _ h2)
    · exact List.mem_append_right _ (List.mem_append_right _ h1)
theorem runN_ids_nodup {l : Nm} (hup : l.Up) (r : List Nc) (hok : okN l r) (h : (l.ids ++ madeN r).Nodup) : (runN l r).ids.Nodup := by
  induction r generalizing l with
  | nil => simpa [runN, madeN] using h
  | cons c r ih =>
    rw [madeN_cons, ← List.append_assoc] at h
    have h' := List.nodup_append.1 h
    refine ih (apply_up hup c) hok.2 (List.nodup_append.2 ⟨apply_ids_nodup hup c hok.1 h'.1, h'.2.1, fun a ha b hb => h'.2.2 a (apply_ids_sub c ha) b hb⟩)

def nmc : Nc → Prop
  | .mk n _ => isNm n = true
  | .gv f t => isNm f = true ∧ isNm t = true
  | .tk n => isNm n = true
theorem apply_nm {l : Nm} (c : Nc) (h : ∀ p ∈ l, isNm p.1 = true) (hc : nmc c) : ∀ p ∈ c.apply l, isNm p.1 = true := by
  intro p hp
  cases c with
  | mk n k =>
    rcases Nm.mem_put.1 hp with rfl | ⟨h1, _⟩
    · exact hc
    · exact h p h1
  | gv f t =>
    simp only [Nc.apply] at hp
    cases hg : l.get f with
    | none => rw [hg] at hp; exact h p hp
    | some j =>
      rw [hg] at hp
      rcases Nm.mem_put.1 (Nm.mem_del.1 hp).1 with rfl | ⟨h1, _⟩
      · exact hc.2
      · exact h p h1
  | tk n => exact h p (Nm.mem_del.1 hp).1
theorem runN_nm {l : Nm} (r : List Nc) (h : ∀ p ∈ l, isNm p.1 = true) (hr : ∀ c ∈ r, nmc c) : ∀ p ∈ runN l r, isNm p.1 = true := by
  induction r generalizing l with
  | nil => exact h
  | cons c r ih => exact ih (apply_nm c h (hr c (by simp))) (fun d hd => hr d (by simp [hd]))

namespace Ds
theorem Wf.nmr' {S : Ds} (h : S.Wf) : ∀ c ∈ S.row, nmc c := fun c hc => by
  have := h.nmr c hc
  cases c <;> exact this
theorem Wf.sup {S : Ds} (h : S.Wf) : S.shown.Up := by rw [h.shown]; exact runN_up h.up _
theorem Wf.sids {S : Ds} (h : S.Wf) : S.shown.ids.Nodup := by rw [h.shown]; exact runN_ids_nodup h.up _ h.ok h.nodup
theorem Wf.slt {S : Ds} (h : S.Wf) {n : By} {k : Nat} (hk : (n, k) ∈ S.shown) : k < S.nx := by
  rw [h.shown] at hk
  exact h.lt k (runN_ids_sub _ (Nm.mem_ids.2 ⟨n, hk⟩))
theorem Wf.snm {S : Ds} (h : S.Wf) : ∀ p ∈ S.shown, isNm p.1 = true := by rw [h.shown]; exact runN_nm _ h.nm h.nmr'
theorem Bd.shown {S : Ds} {N : Nat} (h : S.Bd N) (hw : S.Wf) : S.shown.length ≤ N := by
  rw [hw.shown]
  exact Nat.le_trans (runN_len _ _) h.nm
theorem Bd.len {S : Ds} {N : Nat} (h : S.Bd N) (hw : S.Wf) {k : Nat} (hk : k < S.nx) : (S.th k).shown.length ≤ N := by
  rw [(hw.th k hk).2]
  have h1 := runs_len _ _ (hw.th k hk).1
  have h2 := h.th k hk
  omega
theorem Bd.mono {S : Ds} {N M : Nat} (h : S.Bd N) (hm : N ≤ M) : S.Bd M :=
  ⟨Nat.le_trans h.nm hm, fun k hk => Nat.le_trans (h.th k hk) hm, Nat.le_trans h.reads hm, Nat.le_trans h.strokes hm, Nat.le_trans h.planned hm⟩
theorem find_ok {S : Ds} (h : S.Wf) {n : By} (h0 : (S.find n).1 = 0) : S.on = true ∧ isNm n = true ∧ (n, (S.find n).2) ∈ S.shown ∧ (S.find n).2 < S.nx := by
  unfold find at *
  by_cases ho : S.on = true
  · by_cases hn : isNm n = true
    · simp only [ho, hn, if_true] at *
      cases hg : S.shown.get n with
      | none => simp [hg] at h0
      | some k =>
        simp only [hg]
        have := (Nm.get_some h.sup).1 hg
        exact ⟨trivial, trivial, this, h.slt this⟩
    · simp [ho, hn] at h0
  · simp [ho] at h0
theorem find_none {S : Ds} {n : By} (h0 : (S.find n).1 = 53) : S.on = true ∧ isNm n = true ∧ S.shown.get n = none := by
  unfold find at *
  by_cases ho : S.on = true
  · by_cases hn : isNm n = true
    · simp only [ho, hn, if_true] at *
      cases hg : S.shown.get n with
      | none => exact ⟨trivial, trivial, rfl⟩
      | some k => simp [hg] at h0
    · simp [ho, hn] at h0
  · simp [ho] at h0

theorem Wf.tick {S : Ds} (h : S.Wf) : S.tick.Wf := ⟨h.room, h.up, h.shown, h.ok, h.nodup, h.lt, h.nm, h.nmr, h.th⟩
theorem Bd.tick {S : Ds} {N : Nat} (h : S.Bd N) : S.tick.Bd (N + 1) :=
  ⟨Nat.le_succ_of_le h.nm, fun k hk => Nat.le_succ_of_le (h.th k hk), Nat.le_succ_of_le h.reads, Nat.succ_le_succ h.strokes, Nat.succ_le_succ h.planned⟩
theorem Wf.addName {S : Ds} (h : S.Wf) {c : Nc} (hok : c.ok S.shown) (hm : ∀ k ∈ c.made, k < S.nx ∧ k ∉ S.safe.ids ++ madeN S.row) (hn : c.made.Nodup) (hc : nmc c) : (S.addName c).Wf := by
  refine ⟨h.room, h.up, ?_, ?_, ?_, ?_, h.nm, ?_, h.th⟩
  · show c.apply S.shown = runN S.safe (S.row ++ [c])
    rw [runN_snoc, ← h.shown]
  · exact (okN_snoc _ _ _).2 ⟨h.ok, by show c.ok (runN S.safe S.row); rw [← h.shown]; exact hok⟩
  · show (S.safe.ids ++ madeN (S.row ++ [c])).Nodup
    rw [madeN_snoc, ← List.append_assoc]
    exact List.nodup_append.2 ⟨h.nodup, hn, fun a ha b hb e => (hm b hb).2 (e ▸ ha)⟩
  · intro k hk
    have hk' : k ∈ S.safe.ids ++ madeN (S.row ++ [c]) := hk
    rw [madeN_snoc, ← List.append_assoc] at hk'
    rcases List.mem_append.1 hk' with h1 | h1
    · exact h.lt k h1
    · exact (hm k h1).1
  · intro d hd
    rcases List.mem_append.1 hd with h1 | h1
    · exact h.nmr d h1
    · simp only [List.mem_singleton] at h1
      subst h1
      cases d <;> exact hc
theorem Bd.addName {S : Ds} {N : Nat} (h : S.Bd N) (c : Nc) : (S.addName c).Bd (N + 1) := by
  refine ⟨?_, fun k hk => Nat.le_succ_of_le (h.th k hk), Nat.le_succ_of_le h.reads, Nat.le_succ_of_le h.strokes, Nat.le_succ_of_le h.planned⟩
  show S.safe.length + (S.row ++ [c]).length ≤ N + 1
  have := h.nm
  simp only [List.length_append, List.length_singleton]
  omega
theorem Wf.addByte {S : Ds} (h : S.Wf) {k : Nat} {c : Ch} (hc : c.place ≤ (S.th k).shown.length) (hk : k < S.nx) : (S.addByte k c).Wf := by
  refine ⟨h.room, h.up, h.shown, h.ok, h.nodup, h.lt, h.nm, h.nmr, fun j hj => ?_⟩
  show (upd S.th k _ j).ok
  by_cases e : j = k
  · subst e; rw [upd_same]; exact (h.th j hk).change hc
  · rw [upd_other _ _ e]; exact h.th j hj
theorem Bd.addByte {S : Ds} {N : Nat} (h : S.Bd N) (k : Nat) (c : Ch) : (S.addByte k c).Bd (N + c.units + 1) := by
  refine ⟨by have := h.nm; show S.safe.length + S.row.length ≤ _; omega, fun j hj => ?_, by have := h.reads; show S.reads.length ≤ _; omega, by have := h.strokes; show S.strokes ≤ _; omega, by have := h.planned; show S.planned ≤ _; omega⟩
  show (upd S.th k _ j).safe.length + unitsOf (upd S.th k _ j).row + (upd S.th k _ j).row.length ≤ _
  have := h.th j hj
  by_cases e : j = k
  · subst e
    rw [upd_same]
    simp only [Th.change, unitsOf_snoc, List.length_append, List.length_singleton]
    omega
  · rw [upd_other _ _ e]; omega

theorem Wf.fresh {room : Nat} (h : 1 ≤ room ∧ room ≤ 1048576) : (fresh room).Wf :=
  ⟨h, List.Pairwise.nil, rfl, trivial, List.nodup_nil, by simp [Ds.fresh, Nm.ids, madeN], by simp [Ds.fresh], by simp [Ds.fresh], fun k hk => Th.new_ok⟩
theorem Bd.fresh (room : Nat) : (fresh room).Bd 0 := ⟨Nat.le_refl _, fun k hk => Nat.le_refl _, Nat.le_refl _, Nat.le_refl _, Nat.le_refl _⟩

theorem Wf.create {S : Ds} (h : S.Wf) (n : By) : (S.create n).2.Wf := by
  unfold Ds.create
  split
  · exact h
  split
  · exact h
  rename_i h1 h2
  have h3 := find_none (S := S) (n := n) (by omega)
  split
  · refine Wf.addName (S := ({ S.tick with th := upd S.th S.nx Th.new, nx := S.nx + 1 } : Ds)) ?_ trivial ?_ (by simp [Nc.made]) h3.2.1
    · refine ⟨h.room, h.up, h.shown, h.ok, h.nodup, fun k hk => Nat.lt_succ_of_lt (h.lt k hk), h.nm, h.nmr, fun k hk => ?_⟩
      show (upd S.th S.nx Th.new k).ok
      have hk' : k < S.nx + 1 := hk
      by_cases e : k = S.nx
      · subst e; rw [upd_same]; exact Th.new_ok
      · rw [upd_other _ _ e]; exact h.th k (by omega)
    · intro k hk
      simp only [Nc.made, List.mem_singleton] at hk
      subst hk
      exact ⟨Nat.lt_succ_self _, fun hm => Nat.lt_irrefl _ (h.lt _ hm)⟩
  · exact h.tick
theorem Bd.create {S : Ds} {N : Nat} (h : S.Bd N) (n : By) : (S.create n).2.Bd (N + 1) := by
  unfold Ds.create
  split
  · exact h.mono (by omega)
  split
  · exact h.mono (by omega)
  split
  · refine ⟨?_, fun k hk => ?_, Nat.le_succ_of_le h.reads, Nat.succ_le_succ h.strokes, Nat.succ_le_succ h.planned⟩
    · show S.safe.length + (S.row ++ [_]).length ≤ N + 1
      have := h.nm
      simp only [List.length_append, List.length_singleton]
      omega
    · show (upd S.th S.nx Th.new k).safe.length + unitsOf (upd S.th S.nx Th.new k).row + (upd S.th S.nx Th.new k).row.length ≤ N + 1
      have hk' : k < S.nx + 1 := hk
      by_cases e : k = S.nx
      · subst e; rw [upd_same]; simp [Th.new, unitsOf]
      · rw [upd_other _ _ e]; have := h.th k (by omega); omega
  · exact h.tick

theorem Wf.write {S : Ds} (h : S.Wf) {k a : Nat} (d : By) (hk : k < S.nx) (ha : a ≤ (S.th k).shown.length) : (S.write k a d).2.Wf := by
  unfold Ds.write
  split
  · exact h.tick
  · exact Wf.addByte h.tick (c := .wr a d) ha hk
theorem Bd.write {S : Ds} {N : Nat} (h : S.Bd N) (k a : Nat) (d : By) : (S.write k a d).2.Bd (N + d.length + 2) := by
  unfold Ds.write
  split
  · exact h.tick.mono (by omega)
  · exact (h.tick.addByte k (.wr a d)).mono (by simp only [Ch.units]; omega)
theorem Wf.writeAt {S : Ds} (h : S.Wf) (n : By) (a : Int) (d : By) : (S.writeAt n a d).2.Wf := by
  unfold Ds.writeAt
  split
  · exact h
  split
  · exact h
  rename_i h1 h2
  exact h.write d (find_ok h (by simpa using h1)).2.2.2 (by omega)
theorem Bd.writeAt {S : Ds} {N : Nat} (h : S.Bd N) (n : By) (a : Int) (d : By) : (S.writeAt n a d).2.Bd (N + d.length + 2) := by
  unfold Ds.writeAt
  split
  · exact h.mono (by omega)
  split
  · exact h.mono (by omega)
  exact h.write _ _ _
theorem Wf.append {S : Ds} (h : S.Wf) (n d : By) : (S.append n d).2.Wf := by
  unfold Ds.append
  split
  · exact h
  rename_i h1
  exact h.write d (find_ok h (by simpa using h1)).2.2.2 (Nat.le_refl _)
theorem Bd.append {S : Ds} {N : Nat} (h : S.Bd N) (n d : By) : (S.append n d).2.Bd (N + d.length + 2) := by
  unfold Ds.append
  split
  · exact h.mono (by omega)
  exact h.write _ _ _
theorem Wf.truncate {S : Ds} (h : S.Wf) (n : By) (a : Int) : (S.truncate n a).2.Wf := by
  unfold Ds.truncate
  split
  · exact h
  split
  · exact h
  rename_i h1 h2
  exact Wf.addByte h.tick (c := .cut a.toNat) (by show a.toNat ≤ (S.th _).shown.length; omega) (find_ok h (by simpa using h1)).2.2.2
theorem Bd.truncate {S : Ds} {N : Nat} (h : S.Bd N) (n : By) (a : Int) : (S.truncate n a).2.Bd (N + 3) := by
  unfold Ds.truncate
  split
  · exact h.mono (by omega)
  split
  · exact h.mono (by omega)
  exact (h.tick.addByte _ (.cut a.toNat)).mono (by simp only [Ch.units]; omega)
theorem Wf.rename {S : Ds} (h : S.Wf) (f t : By) : (S.rename f t).2.Wf := by
  unfold Ds.rename
  split
  · split
    · rename_i h0 hn
      split
      · exact h
      split
      · exact h.tick
      rename_i h1 h2
      have h3 := find_ok h (by simpa using h1)
      exact Wf.addName h.tick (c := .gv f t) ⟨h2, _, (Nm.get_some h.sup).2 h3.2.2.1⟩ (by simp [Nc.made]) (by simp [Nc.made]) ⟨h3.2.1, hn⟩
    · exact h
  · exact h
theorem Bd.rename {S : Ds} {N : Nat} (h : S.Bd N) (f t : By) : (S.rename f t).2.Bd (N + 2) := by
  unfold Ds.rename
  split
  · split
    · split
      · exact h.mono (by omega)
      split
      · exact h.tick.mono (by omega)
      exact h.tick.addName _
    · exact h.mono (by omega)
  · exact h.mono (by omega)
theorem Wf.remove {S : Ds} (h : S.Wf) (n : By) : (S.remove n).2.Wf := by
  unfold Ds.remove
  split
  · exact h
  rename_i h1
  exact Wf.addName h.tick (c := .tk n) trivial (by simp [Nc.made]) (by simp [Nc.made]) (find_ok h (by simpa using h1)).2.1
theorem Bd.remove {S : Ds} {N : Nat} (h : S.Bd N) (n : By) : (S.remove n).2.Bd (N + 2) := by
  unfold Ds.remove
  split
  · exact h.mono (by omega)
  exact h.tick.addName _
theorem Wf.sync {S : Ds} (h : S.Wf) (n : By) : (S.sync n).2.Wf := by
  unfold Ds.sync
  split
  · exact h
  split
  · exact h.tick
  refine ⟨h.room, h.up, h.shown, h.ok, h.nodup, h.lt, h.nm, h.nmr, fun j hj => ?_⟩
  show (upd S.th _ _ j).ok
  by_cases e : j = (S.find n).2
  · subst e; rw [upd_same]; exact Th.sync_ok _
  · rw [upd_other _ _ e]; exact h.th j hj
theorem Bd.sync {S : Ds} {N : Nat} (h : S.Bd N) (hw : S.Wf) (n : By) : (S.sync n).2.Bd (N + 1) := by
  unfold Ds.sync
  split
  · exact h.mono (by omega)
  split
  · exact h.tick
  refine ⟨h.tick.nm, fun j hj => ?_, h.tick.reads, h.tick.strokes, h.tick.planned⟩
  show (upd S.th _ _ j).safe.length + unitsOf (upd S.th _ _ j).row + (upd S.th _ _ j).row.length ≤ N + 1
  by_cases e : j = (S.find n).2
  · subst e
    rw [upd_same]
    have := h.len hw hj
    simp only [Th.sync, unitsOf, List.length_nil]
    omega
  · rw [upd_other _ _ e]; have := h.th j hj; omega
theorem Wf.syncNames {S : Ds} (h : S.Wf) : (S.syncNames).2.Wf := by
  unfold Ds.syncNames
  split
  · split
    · exact h.tick
    · exact ⟨h.room, h.sup, rfl, trivial, by simpa [madeN] using h.sids, fun k hk => by
        have hk' : k ∈ S.shown.ids := by simpa [madeN] using hk
        obtain ⟨n, hn⟩ := Nm.mem_ids.1 hk'
        exact h.slt hn, h.snm, by simp, h.th⟩
  · exact h
theorem Bd.syncNames {S : Ds} {N : Nat} (h : S.Bd N) (hw : S.Wf) : (S.syncNames).2.Bd (N + 1) := by
  unfold Ds.syncNames
  split
  · split
    · exact h.tick
    · exact ⟨by have := h.shown hw; show S.shown.length + 0 ≤ _; omega, fun k hk => Nat.le_succ_of_le (h.th k hk), h.tick.reads, h.tick.strokes, h.tick.planned⟩
  · exact h.mono (by omega)
theorem Wf.read {S : Ds} (h : S.Wf) (n : By) (a m : Int) : (S.read n a m).Wf := by
  unfold Ds.read
  split
  · exact ⟨h.room, h.up, h.shown, h.ok, h.nodup, h.lt, h.nm, h.nmr, h.th⟩
  · exact h
theorem Bd.read {S : Ds} {N : Nat} (h : S.Bd N) (n : By) (a m : Int) : (S.read n a m).Bd (N + 1) := by
  unfold Ds.read
  split
  · refine ⟨Nat.le_succ_of_le h.nm, fun k hk => Nat.le_succ_of_le (h.th k hk), ?_, Nat.le_succ_of_le h.strokes, Nat.le_succ_of_le h.planned⟩
    show (S.reads ++ [_]).length ≤ N + 1
    have := h.reads
    simp only [List.length_append, List.length_singleton]
    omega
  · exact h.mono (by omega)
theorem Wf.setPlan {S : Ds} (h : S.Wf) (o f t : Int) : (S.setPlan o f t).Wf := by
  unfold Ds.setPlan
  split
  · exact ⟨h.room, h.up, h.shown, h.ok, h.nodup, h.lt, h.nm, h.nmr, h.th⟩
  · exact h
theorem Bd.setPlan {S : Ds} {N : Nat} (h : S.Bd N) (o f t : Int) : (S.setPlan o f t).Bd N := by
  unfold Ds.setPlan
  split
  · exact ⟨h.nm, h.th, h.reads, h.strokes, Nat.zero_le _⟩
  · exact h
theorem Wf.look {S : Ds} (h : S.Wf) : S.look.Wf := ⟨h.room, h.up, h.shown, h.ok, h.nodup, h.lt, h.nm, h.nmr, h.th⟩
theorem Bd.look {S : Ds} {N : Nat} (h : S.Bd N) : S.look.Bd N := ⟨h.nm, h.th, Nat.zero_le _, h.strokes, h.planned⟩

theorem crashTh_or (ps : List Int) (i : Nat) (l : Nm) (th : Nat → Th) (k : Nat) : crashTh ps i l th k = th k ∨ ∃ t p, crashTh ps i l th k = Th.crash t p := by
  induction l generalizing i th with
  | nil => exact .inl rfl
  | cons x r ih =>
    simp only [crashTh]
    rcases ih (i + 1) (upd th x.2 ((th x.2).crash (ps.getD (i + 1) 0))) with h | h
    · rw [h]
      by_cases e : k = x.2
      · subst e; rw [upd_same]; exact .inr ⟨_, _, rfl⟩
      · rw [upd_other _ _ e]; exact .inl rfl
    · exact .inr h
theorem crashTh_not (ps : List Int) (i : Nat) (l : Nm) (th : Nat → Th) (k : Nat) (hk : k ∉ l.ids) : crashTh ps i l th k = th k := by
  induction l generalizing i th with
  | nil => rfl
  | cons x r ih =>
    simp only [Nm.ids, List.map_cons, List.mem_cons, not_or] at hk
    simp only [crashTh]
    rw [ih (i + 1) _ hk.2, upd_other _ _ hk.1]
theorem crashTh_cons (ps : List Int) (i : Nat) (x : By × Nat) (r : Nm) (th : Nat → Th) (hx : x.2 ∉ r.ids) : crashTh ps i (x :: r) th x.2 = (th x.2).crash (ps.getD (i + 1) 0) := by
  simp only [crashTh]
  rw [crashTh_not _ _ _ _ _ hx, upd_same]
theorem crashTh_len (ps : List Int) (i : Nat) (l : Nm) (th : Nat → Th) (N : Nat) (hl : l.ids.Nodup) (hok : ∀ k ∈ l.ids, (th k).ok) (h : ∀ k, k ∈ l.ids → (th k).safe.length + unitsOf (th k).row + (th k).row.length ≤ N) :
    ∀ k ∈ l.ids, (crashTh ps i l th k).safe.length + unitsOf (crashTh ps i l th k).row + (crashTh ps i l th k).row.length ≤ N := by
  induction l generalizing i th with
  | nil => simp [Nm.ids]
  | cons x r ih =>
    intro k hk
    have hn := List.nodup_cons.1 hl
    by_cases e : k = x.2
    · subst e
      rw [crashTh_cons _ _ _ _ _ hn.1]
      have h1 := torn_len (th x.2).safe (th x.2).row (rnd (ps.getD (i + 1) 0) (unitsOf (th x.2).row)) (hok x.2 (by simp [Nm.ids])).1
      have h2 := h x.2 (by simp [Nm.ids])
      simp only [Th.crash, unitsOf, List.length_nil]
      omega
    · have hk' : k ∈ Nm.ids r := by simpa [Nm.ids, e] using hk
      simp only [crashTh]
      have hne : ∀ j ∈ Nm.ids r, j ≠ x.2 := fun j hj e => hn.1 (by rw [e] at hj; exact hj)
      refine ih (i + 1) _ hn.2 (fun j hj => ?_) (fun j hj => ?_) k hk'
      · rw [upd_other _ _ (hne j hj)]; exact hok j (by simp [Nm.ids] at hj ⊢; exact .inr hj)
      · rw [upd_other _ _ (hne j hj)]; exact h j (by simp [Nm.ids] at hj ⊢; exact .inr hj)

theorem made_take (r : List Nc) (n : Nat) : (madeN (r.take n)).Sublist (madeN r) := by
  have : madeN r = madeN (r.take n) ++ madeN (r.drop n) := by rw [← madeN_append, List.take_append_drop]
  rw [this]
  exact List.sublist_append_left _ _
theorem Wf.crashIds {S : Ds} (h : S.Wf) (ps : List Int) : (S.crashNm ps).ids.Nodup := by
  unfold crashNm
  refine runN_ids_nodup h.up _ (okN_take _ _ _ h.ok) (h.nodup.sublist (List.Sublist.append_left ?_ _))
  exact made_take _ _
theorem Wf.crashSub {S : Ds} (h : S.Wf) (ps : List Int) {k : Nat} (hk : k ∈ (S.crashNm ps).ids) : k < S.nx := by
  refine h.lt k ?_
  have h1 := runN_ids_sub _ hk
  rcases List.mem_append.1 h1 with h2 | h2
  · exact List.mem_append_left _ h2
  · exact List.mem_append_right _ ((made_take _ _).subset h2)
theorem Wf.crash {S : Ds} (h : S.Wf) (ps : List Int) : (S.crash ps).Wf := by
  refine ⟨h.room, runN_up h.up _, rfl, trivial, ?_, fun k hk => ?_, runN_nm _ h.nm (fun c hc => h.nmr' c (List.mem_of_mem_take hc)), by simp [Ds.crash], fun k hk => ?_⟩
  · show ((S.crashNm ps).ids ++ madeN []).Nodup
    simpa [madeN] using h.crashIds ps
  · have hk' : k ∈ (S.crashNm ps).ids ++ madeN [] := hk
    exact h.crashSub ps (by simpa [madeN] using hk')
  · show (crashTh ps 0 (S.crashNm ps) S.th k).ok
    rcases crashTh_or ps 0 (S.crashNm ps) S.th k with e | ⟨t, p, e⟩
    · rw [e]; exact h.th k hk
    · rw [e]; exact Th.crash_ok t p
theorem Bd.crash {S : Ds} {N : Nat} (h : S.Bd N) (hw : S.Wf) (ps : List Int) : (S.crash ps).Bd N := by
  refine ⟨?_, fun k hk => ?_, h.reads, Nat.zero_le _, Nat.zero_le _⟩
  · show (S.crashNm ps).length + 0 ≤ N
    have h1 := runN_len S.safe (S.row.take (rnd (ps.getD 0 0) S.row.length))
    have h2 := h.nm
    rw [List.length_take] at h1
    unfold crashNm
    omega
  · show (crashTh ps 0 (S.crashNm ps) S.th k).safe.length + unitsOf (crashTh ps 0 (S.crashNm ps) S.th k).row + (crashTh ps 0 (S.crashNm ps) S.th k).row.length ≤ N
    by_cases hm : k ∈ (S.crashNm ps).ids
    · exact crashTh_len ps 0 _ S.th N (hw.crashIds ps) (fun j hj => hw.th j (hw.crashSub ps hj)) (fun j hj => h.th j (hw.crashSub ps hj)) k hm
    · rw [crashTh_not _ _ _ _ _ hm]
      exact h.th k hk
end Ds
end Dsk
end

section
set_option linter.unusedVariables false
set_option linter.unusedSimpArgs false
open Dsk Go.Sort

/-- How a pointer to a whole block reads. -/
def ptrElem : Value → Option (DataW Unit × List MemPlace)
  | .pointer none => some (.nil, [])
  | .pointer (some ⟨b, 0, none⟩) => some (.lit (.int .i64 b), [])
  | _ => none
theorem ptrElem_nil_inv {v : Value} {ps : List MemPlace} (h : ptrElem v = some (.nil, ps)) : v = .pointer none := by
  unfold ptrElem at h
  split at h
  · rfl
  · simp at h
  · cases h
theorem ptrElem_some_inv {v : Value} {b : Nat} {ps : List MemPlace} (h : ptrElem v = some (.lit (.int .i64 b), ps)) : v = .pointer (some ⟨b, 0, none⟩) := by
  unfold ptrElem at h
  split at h
  · simp at h
  · rename_i b'
    simp only [Option.some.injEq, Prod.mk.injEq, DataW.lit.injEq, Lit.int.injEq, true_and] at h
    have : b' = b := by omega
    rw [this]
  · cases h

def nmE (A : Nat → Nat) (p : By × Nat) : Lit × DataW Unit := (.string p.1, .lit (.int .i64 (A p.2)))
def nmD (A : Nat → Nat) (l : Nm) : DataW Unit := .map (l.map (nmE A))

theorem same_str (a b : By) : (Lit.string a).sameKey (.string b) = (a == b) := rfl
theorem nmE_ins (A : Nat → Nat) (x : By × Nat) (l : Nm) : (Nm.ins x l).map (nmE A) = DataW.insert (nmE A x) (l.map (nmE A)) := by
  induction l with
  | nil => rfl
  | cons y r ih =>
    simp only [Nm.ins, List.map_cons, DataW.insert]
    have hb : (nmE A x).1.before (nmE A y).1 = bytesBefore x.1 y.1 := rfl
    rw [hb]
    cases hbb : bytesBefore x.1 y.1 <;> simp [ih]
theorem nmD_del (A : Nat → Nat) (l : Nm) (n : By) : (nmD A l).del (.string n) = nmD A (l.del n) := by
  unfold nmD DataW.del Nm.del
  simp only [List.filter_map]
  rfl
theorem nmD_put (A : Nat → Nat) (l : Nm) (n : By) (k : Nat) : (nmD A l).put (.string n) (.lit (.int .i64 (A k))) = nmD A (l.put n k) := by
  have := nmD_del A l n
  unfold nmD DataW.put Nm.put
  rw [nmE_ins]
  unfold nmD DataW.del at this
  simp only [DataW.map.injEq] at this
  simp only [DataW.map.injEq]
  rw [this]
  rfl
theorem nmD_at (A : Nat → Nat) (l : Nm) (n : By) (z : DataW Unit) : (nmD A l).atKey (.string n) z = match l.get n with | some k => .lit (.int .i64 (A k)) | none => z := by
  unfold nmD DataW.atKey Nm.get
  simp only [List.find?_map]
  have : ((fun p : Lit × DataW Unit => p.1.sameKey (.string n)) ∘ nmE A) = fun p : By × Nat => p.1 == n := rfl
  rw [this]
  cases l.find? (fun p => p.1 == n) <;> rfl
theorem nmD_size (A : Nat → Nat) (l : Nm) : Maps.size (nmD A l) = l.length := by simp [nmD, Maps.size_eq]
theorem nmD_keys (A : Nat → Nat) (l : Nm) : strKeys (nmD A l) = l.keys := by
  unfold nmD strKeys Nm.keys
  induction l with
  | nil => rfl
  | cons y r ih =>
    simp only [List.map_cons]
    simp only [List.map_map] at ih ⊢
    rw [ih]
    rfl
theorem before_lt (a b : By) : bytesBefore a b = true ↔ a < b := by
  induction a generalizing b with
  | nil => cases b <;> simp [bytesBefore]
  | cons x r ih => cases b with
    | nil => simp [bytesBefore]
    | cons y s => simp [bytesBefore, ih, List.cons_lt_cons_iff]
/-- The sorted keys are the keys. -/
theorem keys_sorted {l : Nm} (h : l.Up) (ss : List By) (hp : ss.Perm l.keys) : ss.mergeSort (fun x y => decide (x ≤ y)) = l.keys := by
  have hs : l.keys.Pairwise (fun x y => (decide (x ≤ y)) = true) := by
    refine List.pairwise_map.2 (h.imp ?_)
    intro a b hab
    simp only [decide_eq_true_eq]
    exact List.le_of_lt ((before_lt _ _).1 hab)
  have h1 := List.pairwise_mergeSort (le := fun x y : By => decide (x ≤ y)) (fun a b c h1 h2 => by simp only [decide_eq_true_eq] at *; exact List.le_trans h1 h2) (fun a b => by simp only [Bool.or_eq_true, decide_eq_true_eq]; exact List.le_total a b) ss
  have h2 : (ss.mergeSort (fun x y => decide (x ≤ y))).Perm l.keys := (List.mergeSort_perm _ _).trans hp
  exact List.Perm.eq_of_pairwise (le := fun x y : By => decide (x ≤ y) = true) (fun a b _ _ h3 h4 => by simp only [decide_eq_true_eq] at *; exact List.le_antisymm h3 h4) h1 hs h2
end

end Go.Proofs.YtemlbmamcbmnjaaGreatDoor
