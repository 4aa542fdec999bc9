/-
  Four Hashes: one read out, one laid in.
-/
import Derived.Test.YthfbpbibpgblaaaPh1
namespace Go.Proofs.Ythfbpbibpgblaaa
open Go.RowKit
set_option linter.unusedVariables false
set_option linter.unusedSimpArgs false

theorem SegOk.one {l : List Value} {m : List UInt8} (h : SegOk l m) : ∀ v ∈ l, v.oneCell' = true := by
  obtain ⟨st, blk, rfl, _⟩ := h
  exact hrow_oneCell _ _ _

theorem SegOk.zero : SegOk zeroH.toList [] := ⟨List.replicate 8 0, List.replicate 64 0, by simp [zeroH], by simp, by simp, fun h => absurd rfl h, by simp [Tail]⟩

theorem Ha.load {w : World} {HB : Nat} {ms : Nat → List UInt8} (h : Ha w HB ms) (i : Nat) (hi : i < 4) :
    ∃ cs, SegOk cs (ms i) ∧ w.rangeAt HB (i * 73) cs := by
  obtain ⟨sg, hrow', hall⟩ := h.ex
  refine ⟨sg i, hall i hi, fun j v hv => ?_⟩
  have hl := preOf_len sg (fun k hk => (hall k hk).len) i hi
  have hj : j < (sg i).length := by
    rcases Nat.lt_or_ge j (sg i).length with h | h
    · exact h
    · rw [List.getElem?_eq_none h] at hv; cases hv
  rw [cell_of_row _ _ _ _ _ _ hrow', List.getElem?_toArray, segs_at sg i hi, List.getElem?_append_right (by omega), hl, show i * 73 + j - i * 73 = j by omega, List.getElem?_append_left hj]
  exact hv

theorem Ha.store {w : World} {HB : Nat} {ms : Nat → List UInt8} (h : Ha w HB ms) (j : Nat) (hj : j < 4) (cs : List Value) (m' : List UInt8) (hc : SegOk cs m') :
    w.there HB (j * 73) cs.toArray.size ∧ Ha (w.setCells HB (j * 73) cs) HB (upd ms j m') ∧ Kept [HB] w (w.setCells HB (j * 73) cs) := by
  obtain ⟨sg, hrow', hall⟩ := h.ex
  have hl := preOf_len sg (fun k hk => (hall k hk).len) j hj
  have hcl := hc.len
  have hsj := (hall j hj).len
  have hsl : (segs sg).length = 292 := by
    have h0 := (hall 0 (by omega)).len
    have h1 := (hall 1 (by omega)).len
    have h2 := (hall 2 (by omega)).len
    have h3 := (hall 3 (by omega)).len
    simp [segs, h0, h1, h2, h3]
  refine ⟨fun i hi => ?_, ⟨upd sg j cs, ?_, fun k hk => ?_⟩, kept_setCells [HB] cs w HB (j * 73) (Kept.refl _ _) (by simp)⟩
  · have hi' : i < 73 := by simp at hi; omega
    rw [cell_of_row _ _ _ _ _ _ hrow', frozen_of_row _ _ _ _ _ hrow']
    refine ⟨?_, rfl⟩
    rw [List.getElem?_toArray, List.getElem?_eq_getElem (by omega)]
    rfl
  · rw [setCells_row cs w HB (j * 73) (segs sg) _ hrow' (by omega), setRow_heap _ _ _ _ _ _ hrow', segs_upd sg j hj]
    congr 3
    have e := segs_at sg j hj
    rw [e, ← hl, List.take_left]
    congr 1
    congr 1
    rw [← List.drop_drop, List.drop_left, show cs.length = (sg j).length by omega, List.drop_left]
  · by_cases hkj : k = j
    · subst hkj
      rw [upd_same, upd_same]
      exact hc
    · rw [upd_other _ _ _ _ hkj, upd_other _ _ _ _ hkj]
      exact hall k hk

def zero4 : Array Value := (segs fun _ => zeroH.toList).toArray
theorem Try.zeroHs (W : World) : (zeroValue 30).run Try.prog W = .ok (.agg zero4) W := by kernel_rfl
theorem Try.zeroTk (W : World) : (zeroValue 32).run Try.prog W = .ok (.agg #[.slice none 0 0, .slice none 0 0, .slice none 0 0, .slice none 0 0]) W := by kernel_rfl
theorem ha_zero {w : World} {HB : Nat} (h : w.heap[HB]? = some (.cells zero4 30 (0, 0))) : Ha w HB (fun _ => []) := ⟨fun _ => zeroH.toList, h, fun _ _ => SegOk.zero⟩

/-- One step that came in. -/
structure Cl where
  kind : Int
  v : Int
  width : Int
  da : Option Addr
  dn : Nat
  dc : Nat
  ds : List UInt8
structure ClAt (w : World) (b off : Nat) (c : Cl) : Prop where
  c0 : w.cell? ⟨b, off, none⟩ = some (.int .i64 c.kind)
  c1 : w.cell? ⟨b, off + 1, none⟩ = some (.int .i64 c.v)
  c2 : w.cell? ⟨b, off + 2, none⟩ = some (.int .i64 c.width)
  c3 : w.cell? ⟨b, off + 3, none⟩ = some (.slice c.da c.dn c.dc)
  inb : InB w c.da c.dn c.dc c.ds
  wk : (Lit.int .i64 c.kind).wf = true
  wv : (Lit.int .i64 c.v).wf = true
  ww : (Lit.int .i64 c.width).wf = true
def cl0 : Cl := ⟨0, 0, 0, none, 0, 0, []⟩
instance : Inhabited Cl := ⟨cl0⟩
/-- Steps that came in. -/
def Scr (w : World) (ao : Option Addr) (L : List Cl) : Prop :=
  ∀ i, i < L.length → ∃ b off, ao = some ⟨b, off, none⟩ ∧ ClAt w b (off + 4 * i) (L.getD i cl0)
/-- All bytes of the first k steps. -/
def tot (L : List Cl) (k : Nat) : Nat := ((L.take k).map (·.dn)).sum
theorem tot_succ (L : List Cl) (k : Nat) (hk : k < L.length) : tot L (k + 1) = tot L k + (L.getD k cl0).dn := by
  unfold tot
  rw [List.take_succ_eq_append_getElem hk]
  simp only [List.map_append, List.map_cons, List.map_nil, List.sum_append, List.sum_cons, List.sum_nil, Nat.add_zero, List.getD_eq_getElem?_getD, List.getElem?_eq_getElem hk, Option.getD_some]
theorem tot_le (L : List Cl) : ∀ k, tot L k ≤ tot L L.length := by
  intro k
  unfold tot
  rw [List.take_length]
  conv => rhs; rw [← List.take_append_drop k L]
  rw [List.map_append, List.sum_append]
  omega

/-- At the head of the loop. -/
structure DhRel (w wr : World) (HB TB : Nat) (ao : Nat → Option Addr) (cp : Nat → Nat) (ms : Nat → List UInt8) (s : Nat) : Prop where
  ha : Ha wr HB ms
  tk : Tk wr TB ao cp ms [HB, TB]
  kept : Kept [] w wr
  ge : w.heap.size ≤ HB ∧ w.heap.size ≤ TB ∧ HB ≠ TB
  le : ∀ k, k < 4 → (ms k).length ≤ s

end Go.Proofs.Ythfbpbibpgblaaa
