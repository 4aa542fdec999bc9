/-
  The disk of chapter 5 as mathematics: bytes and their changes, names and their changes, strokes, a crash. Nothing of the program.
-/
import Derived.WalkKit
import Derived.Maps.Own
import Derived.Maps.Ext
namespace Go.Proofs.YtmoaaimjgdbelaaGreat
set_option linter.unusedVariables false
set_option linter.unusedSimpArgs false

namespace Dsk
abbrev By := List UInt8

inductive Ch where
  | wr (a : Nat) (d : By)
  | cut (a : Nat)

namespace Ch
def units : Ch → Nat
  | .wr _ d => d.length
  | .cut _ => 1
def place : Ch → Nat
  | .wr a _ => a
  | .cut a => a
/-- n of its units are made on these bytes. -/
def apply : Ch → By → Nat → By
  | .wr a d, b, n => b.take a ++ d.take n ++ b.drop (a + (d.take n).length)
  | .cut a, b, _ => b.take a
theorem apply_len (c : Ch) (b : By) (n : Nat) (h : c.place ≤ b.length) : (c.apply b n).length ≤ b.length + min n c.units := by
  cases c with
  | wr a d => simp only [apply, units, place, List.length_append, List.length_take, List.length_drop] at *; omega
  | cut a => simp only [apply, List.length_take]; omega
end Ch

def runs : By → List Ch → By
  | b, [] => b
  | b, c :: r => runs (c.apply b c.units) r
def fits : By → List Ch → Prop
  | _, [] => True
  | b, c :: r => c.place ≤ b.length ∧ fits (c.apply b c.units) r
def unitsOf : List Ch → Nat
  | [] => 0
  | c :: r => c.units + unitsOf r
/-- The first n units of a row are made. -/
def torn : By → List Ch → Nat → By
  | b, [], _ => b
  | b, c :: r, n => if n = 0 then b else torn (c.apply b (min n c.units)) r (n - min n c.units)

theorem runs_snoc (b : By) (r : List Ch) (c : Ch) : runs b (r ++ [c]) = c.apply (runs b r) c.units := by
  induction r generalizing b with
  | nil => rfl
  | cons x r ih => simp only [List.cons_append, runs, ih]
theorem fits_snoc (b : By) (r : List Ch) (c : Ch) : fits b (r ++ [c]) ↔ fits b r ∧ c.place ≤ (runs b r).length := by
  induction r generalizing b with
  | nil => simp [fits, runs]
  | cons x r ih => simp only [List.cons_append, fits, runs, ih, and_assoc]
theorem unitsOf_snoc (r : List Ch) (c : Ch) : unitsOf (r ++ [c]) = unitsOf r + c.units := by
  induction r with
  | nil => simp [unitsOf]
  | cons x r ih => simp only [List.cons_append, unitsOf, ih]; omega
theorem runs_len (b : By) (r : List Ch) (h : fits b r) : (runs b r).length ≤ b.length + unitsOf r := by
  induction r generalizing b with
  | nil => simp [runs, unitsOf]
  | cons x r ih =>
    have h1 := ih _ h.2
    have h2 := x.apply_len b x.units h.1
    simp only [runs, unitsOf]
    omega
theorem torn_zero (b : By) (r : List Ch) : torn b r 0 = b := by
  cases r <;> simp [torn]
theorem torn_len (b : By) (r : List Ch) (n : Nat) (h : fits b r) : (torn b r n).length ≤ b.length + unitsOf r := by
  induction r generalizing b n with
  | nil => simp [torn, unitsOf]
  | cons c r ih =>
    simp only [torn, unitsOf]
    split
    · omega
    · by_cases hn : c.units ≤ n
      · rw [Nat.min_eq_right hn]
        have h1 := ih _ (n - c.units) h.2
        have h2 := c.apply_len b c.units h.1
        omega
      · rw [Nat.min_eq_left (by omega), Nat.sub_self, torn_zero]
        have h2 := c.apply_len b n h.1
        omega
/-- Where all units are made, all changes are. -/
theorem torn_all (b : By) (r : List Ch) : torn b r (unitsOf r) = runs b r := by
  induction r generalizing b with
  | nil => rfl
  | cons c r ih =>
    have hu : unitsOf (c :: r) = c.units + unitsOf r := rfl
    have ht : torn b (c :: r) (unitsOf (c :: r)) = if c.units + unitsOf r = 0 then b else torn (c.apply b c.units) r (unitsOf r) := by
      rw [hu]
      simp only [torn]
      rw [Nat.min_eq_right (by omega), Nat.add_sub_cancel_left]
    rw [ht, ih]
    show _ = runs (c.apply b c.units) r
    by_cases h : c.units + unitsOf r = 0
    · rw [if_pos h]
      have h1 : c.units = 0 := by omega
      have h2 : unitsOf r = 0 := by omega
      have h3 : c.apply b c.units = b := by
        cases c with
        | wr a d => simp only [Ch.units, List.length_eq_zero_iff] at h1; subst h1; simp [Ch.apply]
        | cut a => simp [Ch.units] at h1
      rw [h3]
      clear ih h h3 ht hu
      induction r generalizing b with
      | nil => rfl
      | cons x r ih2 =>
        simp only [unitsOf] at h2
        have h4 : x.apply b x.units = b := by
          cases x with
          | wr a d => simp only [Ch.units] at h2; have : d = [] := List.length_eq_zero_iff.1 (by omega); subst this; simp [Ch.apply]
          | cut a => simp only [Ch.units] at h2; omega
        have h5 : unitsOf r = 0 := by omega
        simp only [runs, h4]
        exact ih2 b h5
    · rw [if_neg h]

/-! ### names -/
abbrev Nm := List (By × Nat)
namespace Nm
def del (l : Nm) (n : By) : Nm := l.filter (fun p => !(p.1 == n))
def ins (x : By × Nat) : Nm → Nm
  | [] => [x]
  | y :: r => if bytesBefore x.1 y.1 then x :: y :: r else y :: ins x r
def put (l : Nm) (n : By) (k : Nat) : Nm := ins (n, k) (l.del n)
def get (l : Nm) (n : By) : Option Nat := (l.find? (fun p => p.1 == n)).map (·.2)
/-- Rising names. -/
def Up (l : Nm) : Prop := l.Pairwise (fun p q => bytesBefore p.1 q.1 = true)
def ids (l : Nm) : List Nat := l.map (·.2)
def keys (l : Nm) : List By := l.map (·.1)
end Nm

theorem before_irrefl (a : By) : bytesBefore a a = false := by
  induction a with
  | nil => rfl
  | cons x r ih => simp [bytesBefore, ih]
theorem before_trans {a b c : By} (h : bytesBefore a b = true) (h2 : bytesBefore b c = true) : bytesBefore a c = true := by
  induction a generalizing b c with
  | nil => cases b with
    | nil => simp [bytesBefore] at h
    | cons y s => cases c with
      | nil => simp [bytesBefore] at h2
      | cons z t => rfl
  | cons x r ih => cases b with
    | nil => simp [bytesBefore] at h
    | cons y s => cases c with
      | nil => simp [bytesBefore] at h2
      | cons z t =>
        simp only [bytesBefore, Bool.or_eq_true, Bool.and_eq_true, decide_eq_true_eq, beq_iff_eq] at *
        rcases h with h | ⟨rfl, h⟩
        · rcases h2 with h2 | ⟨rfl, h2⟩
          · exact .inl (UInt8.lt_trans h h2)
          · exact .inl h
        · rcases h2 with h2 | ⟨rfl, h2⟩
          · exact .inl h2
          · exact .inr ⟨rfl, ih h h2⟩
theorem before_total {a b : By} (h : bytesBefore a b = false) (hne : a ≠ b) : bytesBefore b a = true := by
  induction a generalizing b with
  | nil => cases b with
    | nil => exact absurd rfl hne
    | cons y s => simp [bytesBefore] at h
  | cons x r ih => cases b with
    | nil => rfl
    | cons y s =>
      simp only [bytesBefore, Bool.or_eq_false_iff, Bool.and_eq_false_iff, decide_eq_false_iff_not, beq_eq_false_iff_ne, Bool.or_eq_true, Bool.and_eq_true, decide_eq_true_eq, beq_iff_eq] at *
      by_cases e : x = y
      · subst e
        exact .inr ⟨rfl, ih (by rcases h.2 with h2 | h2; exact absurd rfl h2; exact h2) (fun e => hne (by rw [e]))⟩
      · left
        have h1 := h.1
        rw [UInt8.lt_iff_toNat_lt] at *
        have : x.toNat ≠ y.toNat := fun e2 => e (UInt8.toNat_inj.1 e2)
        omega

namespace Nm
theorem mem_ins {x y : By × Nat} {l : Nm} : y ∈ ins x l ↔ y = x ∨ y ∈ l := by
  induction l with
  | nil => simp [ins]
  | cons z r ih =>
    simp only [ins]
    split
    · simp
    · simp [ih, or_left_comm]
theorem mem_del {l : Nm} {n : By} {p : By × Nat} : p ∈ l.del n ↔ p ∈ l ∧ p.1 ≠ n := by simp [del]
theorem mem_put {l : Nm} {n : By} {k : Nat} {p : By × Nat} : p ∈ l.put n k ↔ p = (n, k) ∨ (p ∈ l ∧ p.1 ≠ n) := by rw [put, mem_ins, mem_del]
theorem Up.del {l : Nm} (h : Up l) (n : By) : Up (l.del n) := h.filter _
theorem Up.ins {x : By × Nat} {l : Nm} (h : Up l) (hn : ∀ p ∈ l, p.1 ≠ x.1) : Up (ins x l) := by
  induction l with
  | nil => simp [Nm.ins, Up]
  | cons y r ih =>
    have h' := List.pairwise_cons.1 h
    simp only [Nm.ins]
    split
    · rename_i hb
      refine List.pairwise_cons.2 ⟨fun p hp => ?_, h⟩
      rcases List.mem_cons.1 hp with rfl | hp
      · exact hb
      · exact before_trans hb (h'.1 p hp)
    · rename_i hb
      refine List.pairwise_cons.2 ⟨fun p hp => ?_, ih h'.2 (fun p hp => hn p (by simp [hp]))⟩
      rcases mem_ins.1 hp with rfl | hp
      · exact before_total (by simpa using hb) (fun e => hn y (by simp) e.symm)
      · exact h'.1 p hp
theorem Up.put {l : Nm} (h : Up l) (n : By) (k : Nat) : Up (l.put n k) := (h.del n).ins (fun p hp => (mem_del.1 hp).2)
theorem Up.uniq {l : Nm} (h : Up l) {n : By} {j k : Nat} (hj : (n, j) ∈ l) (hk : (n, k) ∈ l) : j = k := by
  induction l with
  | nil => simp at hj
  | cons x r ih =>
    have h' := List.pairwise_cons.1 h
    rcases List.mem_cons.1 hj with e | hj <;> rcases List.mem_cons.1 hk with e2 | hk
    · rw [← e] at e2; injection e2 with _ e2; exact e2.symm
    · have := h'.1 _ hk; rw [← e, before_irrefl] at this; cases this
    · have := h'.1 _ hj; rw [← e2, before_irrefl] at this; cases this
    · exact ih h'.2 hj hk
theorem get_some {l : Nm} (h : Up l) {n : By} {k : Nat} : l.get n = some k ↔ (n, k) ∈ l := by
  constructor
  · intro hg
    simp only [get, Option.map_eq_some_iff] at hg
    obtain ⟨p, hp, rfl⟩ := hg
    have h1 := List.mem_of_find?_eq_some hp
    have h2 := List.find?_some hp
    simp only [beq_iff_eq] at h2
    rw [← h2]
    exact h1
  · intro hm
    cases hf : l.find? (fun p => p.1 == n) with
    | none => have := List.find?_eq_none.1 hf _ hm; simp at this
    | some p =>
      have h1 := List.mem_of_find?_eq_some hf
      have h2 := List.find?_some hf
      simp only [beq_iff_eq] at h2
      simp only [get, hf, Option.map_some, Option.some.injEq]
      exact h.uniq (n := n) (by rw [← h2]; exact h1) hm
theorem get_none {l : Nm} {n : By} : l.get n = none ↔ ∀ p ∈ l, p.1 ≠ n := by
  simp [get, List.find?_eq_none]
theorem ins_length (x : By × Nat) (l : Nm) : (ins x l).length = l.length + 1 := by
  induction l with
  | nil => rfl
  | cons y r ih => simp only [ins]; split <;> simp [ih]
theorem del_length_le (l : Nm) (n : By) : (l.del n).length ≤ l.length := List.length_filter_le _ _
theorem put_length_le (l : Nm) (n : By) (k : Nat) : (l.put n k).length ≤ l.length + 1 := by rw [put, ins_length]; have := del_length_le l n; omega
theorem ins_perm (x : By × Nat) (l : Nm) : (ins x l).Perm (x :: l) := by
  induction l with
  | nil => exact .refl _
  | cons y r ih =>
    simp only [ins]
    split
    · exact .refl _
    · exact (ih.cons y).trans (.swap _ _ _)
theorem del_none {l : Nm} {n : By} (h : ∀ p ∈ l, p.1 ≠ n) : l.del n = l := List.filter_eq_self.2 (fun p hp => by simp [h p hp])
theorem del_ins {x : By × Nat} {n : By} (hne : x.1 ≠ n) (l : Nm) (h : Up l) (hx : ∀ p ∈ l, p.1 ≠ x.1) : (ins x l).del n = ins x (l.del n) := by
  induction l with
  | nil => simp [ins, del, hne]
  | cons y r ih =>
    have h' := List.pairwise_cons.1 h
    have ih' := ih h'.2 (fun p hp => hx p (by simp [hp]))
    by_cases hy : y.1 = n
    · simp only [ins]
      split
      · rename_i hb
        have e1 : del (x :: y :: r) n = x :: del r n := by simp [del, hne, hy]
        have e2 : del (y :: r) n = del r n := by simp [del, hy]
        rw [e1, e2]
        cases hr : del r n with
        | nil => rfl
        | cons z s =>
          have hz : z ∈ r := (mem_del.1 (by rw [hr]; simp : z ∈ del r n)).1
          simp only [ins]
          rw [if_pos (before_trans hb (h'.1 z hz))]
      · have e1 : del (y :: ins x r) n = del (ins x r) n := by simp [del, hy]
        have e2 : del (y :: r) n = del r n := by simp [del, hy]
        rw [e1, e2, ih']
    · have e2 : del (y :: r) n = y :: del r n := by simp [del, hy]
      rw [e2]
      simp only [ins]
      split
      · simp [del, hne, hy]
      · have e1 : del (y :: ins x r) n = y :: del (ins x r) n := by simp [del, hy]
        rw [e1, ih']
theorem del_comm (l : Nm) (a b : By) : (l.del a).del b = (l.del b).del a := by simp [del, List.filter_filter, Bool.and_comm]
/-- Giving and then striking is striking and then giving. -/
theorem put_del {l : Nm} (h : Up l) {f t : By} (hne : f ≠ t) (k : Nat) : (l.put t k).del f = (l.del f).put t k := by
  rw [put, put, del_ins (fun e => hne e.symm) _ (h.del t) (fun p hp => (mem_del.1 hp).2), del_comm]
end Nm

inductive Nc where
  | mk (n : By) (k : Nat)
  | gv (f t : By)
  | tk (n : By)
namespace Nc
def apply : Nc → Nm → Nm
  | .mk n k, l => l.put n k
  | .gv f t, l => match l.get f with
    | some k => (l.put t k).del f
    | none => l
  | .tk n, l => l.del n
def ok (l : Nm) : Nc → Prop
  | .mk _ _ => True
  | .gv f t => f ≠ t ∧ ∃ k, l.get f = some k
  | .tk _ => True
def made : Nc → List Nat
  | .mk _ k => [k]
  | _ => []
end Nc
def runN : Nm → List Nc → Nm
  | l, [] => l
  | l, c :: r => runN (c.apply l) r
def okN : Nm → List Nc → Prop
  | _, [] => True
  | l, c :: r => c.ok l ∧ okN (c.apply l) r
def madeN (r : List Nc) : List Nat := r.flatMap Nc.made
theorem runN_snoc (l : Nm) (r : List Nc) (c : Nc) : runN l (r ++ [c]) = c.apply (runN l r) := by
  induction r generalizing l with
  | nil => rfl
  | cons x r ih => simp only [List.cons_append, runN, ih]
theorem okN_snoc (l : Nm) (r : List Nc) (c : Nc) : okN l (r ++ [c]) ↔ okN l r ∧ c.ok (runN l r) := by
  induction r generalizing l with
  | nil => simp [okN, runN]
  | cons x r ih => simp only [List.cons_append, okN, runN, ih, and_assoc]
theorem okN_take (l : Nm) (r : List Nc) (n : Nat) (h : okN l r) : okN l (r.take n) := by
  induction r generalizing l n with
  | nil => simpa using h
  | cons x r ih =>
    cases n with
    | zero => simp [okN]
    | succ n => exact ⟨h.1, ih _ n h.2⟩

theorem apply_up {l : Nm} (h : l.Up) (c : Nc) : (c.apply l).Up := by
  cases c with
  | mk n k => exact h.put n k
  | gv f t =>
    simp only [Nc.apply]
    split
    · exact (h.put _ _).del _
    · exact h
  | tk n => exact h.del n
theorem runN_up {l : Nm} (h : l.Up) (r : List Nc) : (runN l r).Up := by
  induction r generalizing l with
  | nil => exact h
  | cons c r ih => exact ih (apply_up h c)
theorem apply_len (l : Nm) (c : Nc) : (c.apply l).length ≤ l.length + 1 := by
  cases c with
  | mk n k => exact Nm.put_length_le l n k
  | gv f t =>
    simp only [Nc.apply]
    split
    · exact Nat.le_trans (Nm.del_length_le _ _) (Nm.put_length_le l _ _)
    · omega
  | tk n => exact Nat.le_trans (Nm.del_length_le l n) (by omega)
theorem runN_len (l : Nm) (r : List Nc) : (runN l r).length ≤ l.length + r.length := by
  induction r generalizing l with
  | nil => simp [runN]
  | cons c r ih => have := ih (c.apply l); have := apply_len l c; simp only [runN, List.length_cons]; omega
end Dsk
end Go.Proofs.YtmoaaimjgdbelaaGreat
