/-
  Names as a map's datum: name to the block of its thing.
-/
import Derived.Test.YtmoaaimjgdbelaaGreatGc
import Derived.Sort.EncStr
import Derived.Sort.KeysCollected
import Derived.Maps.Views
namespace Go.Proofs.YtmoaaimjgdbelaaGreat
set_option linter.unusedVariables false
set_option linter.unusedSimpArgs false
open Dsk Go.Sort

/-- How a pointer to a whole block reads. -/
def ptrElem : Value → Option (DataW Unit × List MemPlace)
  | .pointer none => some (.nil, [])
  | .pointer (some ⟨b, 0, none⟩) => some (.lit (.int .i64 b), [])
  | _ => none
theorem ptrElem_nil_inv {v : Value} {ps : List MemPlace} (h : ptrElem v = some (.nil, ps)) : v = .pointer none := by
  unfold ptrElem at h
  split at h
  · rfl
  · simp at h
  · cases h
theorem ptrElem_some_inv {v : Value} {b : Nat} {ps : List MemPlace} (h : ptrElem v = some (.lit (.int .i64 b), ps)) : v = .pointer (some ⟨b, 0, none⟩) := by
  unfold ptrElem at h
  split at h
  · simp at h
  · rename_i b'
    simp only [Option.some.injEq, Prod.mk.injEq, DataW.lit.injEq, Lit.int.injEq, true_and] at h
    have : b' = b := by omega
    rw [this]
  · cases h

def nmE (A : Nat → Nat) (p : By × Nat) : Lit × DataW Unit := (.string p.1, .lit (.int .i64 (A p.2)))
def nmD (A : Nat → Nat) (l : Nm) : DataW Unit := .map (l.map (nmE A))

theorem same_str (a b : By) : (Lit.string a).sameKey (.string b) = (a == b) := rfl
theorem nmE_ins (A : Nat → Nat) (x : By × Nat) (l : Nm) : (Nm.ins x l).map (nmE A) = DataW.insert (nmE A x) (l.map (nmE A)) := by
  induction l with
  | nil => rfl
  | cons y r ih =>
    simp only [Nm.ins, List.map_cons, DataW.insert]
    have hb : (nmE A x).1.before (nmE A y).1 = bytesBefore x.1 y.1 := rfl
    rw [hb]
    cases hbb : bytesBefore x.1 y.1 <;> simp [ih]
theorem nmD_del (A : Nat → Nat) (l : Nm) (n : By) : (nmD A l).del (.string n) = nmD A (l.del n) := by
  unfold nmD DataW.del Nm.del
  simp only [List.filter_map]
  rfl
theorem nmD_put (A : Nat → Nat) (l : Nm) (n : By) (k : Nat) : (nmD A l).put (.string n) (.lit (.int .i64 (A k))) = nmD A (l.put n k) := by
  have := nmD_del A l n
  unfold nmD DataW.put Nm.put
  rw [nmE_ins]
  unfold nmD DataW.del at this
  simp only [DataW.map.injEq] at this
  simp only [DataW.map.injEq]
  rw [this]
  rfl
theorem nmD_at (A : Nat → Nat) (l : Nm) (n : By) (z : DataW Unit) : (nmD A l).atKey (.string n) z = match l.get n with | some k => .lit (.int .i64 (A k)) | none => z := by
  unfold nmD DataW.atKey Nm.get
  simp only [List.find?_map]
  have : ((fun p : Lit × DataW Unit => p.1.sameKey (.string n)) ∘ nmE A) = fun p : By × Nat => p.1 == n := rfl
  rw [this]
  cases l.find? (fun p => p.1 == n) <;> rfl
theorem nmD_size (A : Nat → Nat) (l : Nm) : Maps.size (nmD A l) = l.length := by simp [nmD, Maps.size_eq]
theorem nmD_keys (A : Nat → Nat) (l : Nm) : strKeys (nmD A l) = l.keys := by
  unfold nmD strKeys Nm.keys
  induction l with
  | nil => rfl
  | cons y r ih =>
    simp only [List.map_cons]
    simp only [List.map_map] at ih ⊢
    rw [ih]
    rfl
theorem before_lt (a b : By) : bytesBefore a b = true ↔ a < b := by
  induction a generalizing b with
  | nil => cases b <;> simp [bytesBefore]
  | cons x r ih => cases b with
    | nil => simp [bytesBefore]
    | cons y s => simp [bytesBefore, ih, List.cons_lt_cons_iff]
/-- The sorted keys are the keys. -/
theorem keys_sorted {l : Nm} (h : l.Up) (ss : List By) (hp : ss.Perm l.keys) : ss.mergeSort (fun x y => decide (x ≤ y)) = l.keys := by
  have hs : l.keys.Pairwise (fun x y => (decide (x ≤ y)) = true) := by
    refine List.pairwise_map.2 (h.imp ?_)
    intro a b hab
    simp only [decide_eq_true_eq]
    exact List.le_of_lt ((before_lt _ _).1 hab)
  have h1 := List.pairwise_mergeSort (le := fun x y : By => decide (x ≤ y)) (fun a b c h1 h2 => by simp only [decide_eq_true_eq] at *; exact List.le_trans h1 h2) (fun a b => by simp only [Bool.or_eq_true, decide_eq_true_eq]; exact List.le_total a b) ss
  have h2 : (ss.mergeSort (fun x y => decide (x ≤ y))).Perm l.keys := (List.mergeSort_perm _ _).trans hp
  exact List.Perm.eq_of_pairwise (le := fun x y : By => decide (x ≤ y) = true) (fun a b _ _ h3 h4 => by simp only [decide_eq_true_eq] at *; exact List.le_antisymm h3 h4) h1 hs h2
end Go.Proofs.YtmoaaimjgdbelaaGreat
