/-
  Contracts: freightlaw5.long, do. (Written by tools/ib.py.)
-/
import Derived.Test.YtemlbmamcbmnjaaGreatDoorHpp
import Derived.Laws.AppendOwnNone
namespace Go.Proofs.YtemlbmamcbmnjaaGreatDoor
open Go.RowKit Dsk
set_option linter.unusedVariables false
set_option linter.unusedSimpArgs false

/-! ### long -/
def Stp.cost (s : Stp) : Nat := s.dn + 8 * s.pn
def costs (L : List Stp) : Nat := (L.map Stp.cost).sum
theorem costs_snoc (L : List Stp) (c : Stp) : costs (L ++ [c]) = costs L + c.cost := by simp [costs]
theorem stp_snoc (L : List Stp) (k : Nat) (h : k < L.length) : L.take (k + 1) = L.take k ++ [L.getD k stp0] := by
  rw [List.take_succ_eq_append_getElem h]
  simp [List.getElem?_eq_getElem h]
def ShortS (L : List Stp) : Prop := L.length ≤ 300 ∧ costs L ≤ 100000
def LongEndS (L : List Stp) (e : Ending) : Prop := e = .returned (.bool true) ∨ (e = .returned (.bool false) ∧ ShortS L)

/-! ### a row copied -/
theorem run_fresh (v : World) (t ty e : TypeId) {z : Value} {bs : Nat} (ht : Tryz.prog.underlying t = some (.slice e)) (hi : (Tryz.prog.info? e).map (fun i => (i.zero, i.size, i.bytes)) = some (some z, 1, bs)) (hzs : z.cells.size = 1) (ao : Option Addr) (n c : Nat) (ys : List Value) (hl : ys.length = n) (hy : ∀ j u, ys[j]? = some u → ∃ b off, ao = some ⟨b, off, none⟩ ∧ v.cell? ⟨b, off + j, none⟩ = some u) (h0 : ao = none → n = 0 ∧ c = 0) (h1 : ∀ u ∈ ys, u.oneCell' = true) (hn : n ≤ maxLen) (hb : n * bs ≤ 140737488355328) :
    ∃ g c' w', (Builtin.append_ #[t, t] ty #[.slice (some ⟨v.heap.size, 0, none⟩) 0 0, .slice ao n c]).run Tryz.prog (v.alloc (.cells #[] e)) = .ok (.slice (some ⟨g, 0, none⟩) n c') w' ∧ w'.ownsRow 0 e 1 (.slice (some ⟨g, 0, none⟩) n c') n ys ∧ Kept [] v w' ∧ v.heap.size ≤ g := by
  have hown : (v.alloc (.cells #[] e)).ownsRow v.heap.size e 1 (.slice (some ⟨v.heap.size, 0, none⟩) 0 0) 0 [] := World.ownsRow_made v #[] 0 (Nat.le_refl _) (by decide) rfl
  have hk := (Kept.refl [] v).alloc (.cells #[] e)
  obtain ⟨i0, hi, hz0, hz1, hz2⟩ := info_parts hi
  cases ao with
  | none =>
    obtain ⟨rfl, rfl⟩ := h0 rfl
    have : ys = [] := List.eq_nil_of_length_eq_zero hl
    subst this
    refine ⟨v.heap.size, 0, _, run_append_owned_none (P := Tryz.prog) (w := v.alloc (.cells #[] e)) v.heap.size t ty e i0 1 ht hi _ 0 [] hown, ownsRow_base_a hown (Nat.zero_le _), hk, Nat.le_refl _⟩
  | some ad =>
    obtain ⟨v', w', hrun, h1', h2, h3, h4⟩ := run_append_own_at (P := Tryz.prog) (v.alloc (.cells #[] e)) v.heap.size t ty e i0 z 1 bs ht hi hz0 hz1 hz2 hzs (by decide) _ 0 [] hown ad n c ys (by omega) (fun j u hj => by
      obtain ⟨b, off, e1, hc⟩ := hy j u hj
      cases e1
      rw [show ((⟨b, off, none⟩ : Addr).add j) = ⟨b, off + j, none⟩ from by unfold Addr.add; by_cases h : j = 0 <;> simp [h]]
      exact hk.cellOf hc (by simp)) h1 (by omega) (by rw [Nat.zero_add]; exact hb) hk.size
    rw [Nat.zero_add, List.nil_append] at h1'
    have hk' : Kept [] v w' := hk.grown h2 (by intro k hk2 hlt; simp [Value.ownBlock] at hk2; omega)
    rcases h1'.2 with ⟨e1, e2⟩ | ⟨g, cap', cur, e1, hg, _⟩
    · have := (h3.1 e1).1
      simp at this
    · subst e1
      exact ⟨g, cap', w', hrun, ownsRow_base_a h1' (Nat.zero_le _), hk', hg⟩
theorem Tryz.infoInt : (Tryz.prog.info? 3).map (fun i => (i.zero, i.size, i.bytes)) = some (some (.int .i64 0), 1, 8) := by kernel_rfl
theorem fresh_bytes (v : World) (ty : TypeId) (ao : Option Addr) (n c : Nat) (d : By) (hl : d.length = n) (hs : Sl v ao d) (h0 : ao = none → n = 0 ∧ c = 0) (hb : n ≤ 140737488355328) :
    ∃ g c' w', (Builtin.append_ #[28, 28] ty #[.slice (some ⟨v.heap.size, 0, none⟩) 0 0, .slice ao n c]).run Tryz.prog (v.alloc (.cells #[] 5)) = .ok (.slice (some ⟨g, 0, none⟩) n c') w' ∧ Sl w' (some ⟨g, 0, none⟩) d ∧ Kept [] v w' ∧ v.heap.size ≤ g := by
  obtain ⟨g, c', w', h1, h2, h3, h4⟩ := run_fresh v 28 ty 5 Tryz.underlying28 Tryz.infoByte rfl ao n c (bys d) (by rw [bys_length]; exact hl) (fun j u hu => by
    obtain ⟨hj, rfl⟩ := bys_get hu
    exact hs j hj) h0 (bys_oneCell d) (by unfold maxLen; omega) (by omega)
  exact ⟨g, c', w', h1, (OwnB.of h2).sl, h3, h4⟩
def ins (ps : List Int) : List Value := ps.map (Value.int .i64)
theorem ints_of {w : World} {B : Nat} {g n c : Nat} {ps : List Int} (h : w.ownsRow B 3 1 (.slice (some ⟨g, 0, none⟩) n c) n (ins ps)) : Ints w (some ⟨g, 0, none⟩) ps := by
  intro i hi
  refine ⟨g, 0, rfl, ?_⟩
  have := h.cells (g := g) rfl i (.int .i64 (ps.getD i 0)) (by simp [ins, hi])
  rw [add0] at this
  rw [Nat.zero_add]
  exact this
theorem fresh_ints (v : World) (ty : TypeId) (ao : Option Addr) (n c : Nat) (d : List Int) (hl : d.length = n) (hs : Ints v ao d) (h0 : ao = none → n = 0 ∧ c = 0) (hb : n ≤ 17592186044416) :
    ∃ g c' w', (Builtin.append_ #[31, 31] ty #[.slice (some ⟨v.heap.size, 0, none⟩) 0 0, .slice ao n c]).run Tryz.prog (v.alloc (.cells #[] 3)) = .ok (.slice (some ⟨g, 0, none⟩) n c') w' ∧ Ints w' (some ⟨g, 0, none⟩) d ∧ Kept [] v w' ∧ v.heap.size ≤ g := by
  obtain ⟨g, c', w', h1, h2, h3, h4⟩ := run_fresh v 31 ty 3 Tryz.underlying31 Tryz.infoInt rfl ao n c (ins d) (by simp [ins, hl]) (fun j u hu => by
    have hj : j < d.length := by have := (List.getElem?_eq_some_iff.1 hu).1; simpa [ins] using this
    have e : u = .int .i64 (d.getD j 0) := by
      simp [ins, hj] at hu
      simp [hj, hu]
    subst e
    exact hs j hj) h0 (by simp [ins, Value.oneCell']) (by unfold maxLen; omega) (by omega)
  exact ⟨g, c', w', h1, ints_of h2, h3, h4⟩
end Go.Proofs.YtemlbmamcbmnjaaGreatDoor
