/-
  DigestPieces' ground: a row of numbers that came in; what is cut off; pieces in a row.
-/
import Derived.Test.YthfbpbibpgblaaaDk
import Derived.Test.YthfbpbibpgblaaaDr4
import Derived.Test.YthfbpbibpgblaaaAd
import Derived.Maps.AppendAt
namespace Go.Proofs.Ythfbpbibpgblaaa
open Go.ChangeShapes Go.WideShapes Go.ChangeAt Go.RowKit Go.Deep Go.Joins
set_option linter.unusedVariables false
set_option linter.unusedSimpArgs false

theorem hide {p : Prop} (h : p) : Hid p := h

/-- A row of numbers that came in. -/
structure InI (w : World) (ao : Option Addr) (n : Nat) (zs : List Int) : Prop where
  len : zs.length = n
  max : n ≤ 9223372036854775807
  at_ : ∀ i, i < n → ∃ b off, ao = some ⟨b, off, none⟩ ∧ w.cell? ⟨b, off + i, none⟩ = some (.int .i64 (zs.getD i 0))
  wf : ∀ i, i < n → -9223372036854775808 ≤ zs.getD i 0 ∧ zs.getD i 0 ≤ 9223372036854775807

theorem open_introw {H : Type} {enc : TypeId × Value → H} {w : World} {fuel : Nat} {v : Value} {x : DataW H × List MemPlace} (h : DataW.trod enc Try.prog w 0 (fun _ => true) true fuel 43 [v] = some x) :
    ∃ ao n cap zs, v = .slice ao n cap ∧ InI w ao n zs := by
  rcases open_ints Try.underlying43 Try.underlying3 (by kernel_rfl) h with ⟨hcs, _⟩ | ⟨a, l, c, zs, hcs, _, hl, hm, hz, hx, hcell, hwz⟩
  · cases hcs
    exact ⟨none, 0, 0, [], rfl, rfl, by omega, by simp, by simp⟩
  · cases hcs
    have hz' : zs.length = c := by simpa using hz
    unfold maxLen at hm
    obtain ⟨b, off, spot⟩ := a
    refine ⟨_, l, c, zs.take l, rfl, by simp; omega, by omega, fun i hi => ?_, fun i hi => ?_⟩
    · have hsp : spot = none := by simpa [Addr.add] using World.cell?_spot (hcell 0 (by omega))
      subst hsp
      refine ⟨b, off, rfl, ?_⟩
      have := hcell i (by omega)
      rw [Addr.add_mid] at this
      rw [this]
      simp [hi]
    · have e : (zs.take l).getD i 0 = zs.getD i 0 := by simp [hi]
      rw [e]
      exact bounds_i64 (hwz _ (by simp [List.getElem?_eq_getElem (show i < zs.length by omega)]))

/-- rest[m:]. -/
theorem cut_rest (ao : Option Addr) (L cap m : Nat) (ds : List UInt8) (hm : m ≤ L) (hl : ds.length = L) (hc : L ≤ cap) :
    ∃ ao2, (∀ W, (Instr.slice 31 (.slice ao L cap) (some (.int .i64 m)) none none).run Try.prog W = .ok (.slice ao2 (L - m) (cap - m)) W) ∧ (∀ w, Sl w ao ds → Sl w ao2 (ds.drop m)) ∧ (∀ a2, ao2 = some a2 → ∃ a, ao = some a ∧ a2.block = a.block) := by
  have hr : ∀ W, (Instr.slice 31 (.slice ao L cap) (some (.int .i64 m)) none none).run Try.prog W = .ok (sliced ao m L cap 1) W := fun W => by
    have hz : (sizeOf (Try.prog.elem 31)).run Try.prog W = .ok 1 W := by kernel_rfl
    have h := run_slice_l (P := Try.prog) W 31 ao L cap (by kernel_rfl) .i64 m (by omega) (by omega)
    rw [h, hz]
    simp
  cases ao with
  | none =>
    refine ⟨none, fun W => ?_, fun w hs => ?_, by simp⟩
    · rw [hr W]; simp [sliced]
    · intro i hi
      simp only [List.length_drop] at hi
      obtain ⟨b, off, e, _⟩ := hs (m + i) (by omega)
      cases e
  | some a =>
    by_cases hcm : cap = m
    · refine ⟨some a, fun W => ?_, fun w hs => ?_, fun a2 h => ⟨a, rfl, by cases h; rfl⟩⟩
      · rw [hr W]; simp [sliced, hcm]
      · rw [List.drop_of_length_le (by omega)]; exact Sl.nil _ _
    · refine ⟨some (a.add m), fun W => ?_, fun w hs => ?_, fun a2 h => ⟨a, rfl, by cases h; unfold Addr.add; split <;> rfl⟩⟩
      · rw [hr W]; simp [sliced, hcm]
      · by_cases h0 : ds = []
        · subst h0; simp; exact Sl.nil _ _
        · obtain ⟨b, off, e, _, _⟩ := hs.open h0
          cases e
          have := hs.drop m cap (by omega) (by omega)
          rw [if_neg hcm] at this
          rw [Addr.add_mid]
          exact this

theorem cut_to (W : World) (ao : Option Addr) (L cap m : Nat) (hm : m ≤ cap) :
    (Instr.slice 31 (.slice ao L cap) none (some (.int .i64 m)) none).run Try.prog W = .ok (.slice ao m cap) W := by
  have hz : (sizeOf (Try.prog.elem 31)).run Try.prog W = .ok 1 W := by kernel_rfl
  have h := run_slice_h (P := Try.prog) W 31 ao L cap (by kernel_rfl) .i64 m (by omega) (by omega)
  rw [h, hz]
  cases ao <;> simp [sliced, Addr.add]

/-- Pieces as cells. -/
def pvs (L : List Pc) : List Value := L.map fun c => .slice c.da c.ds.length c.dc
theorem pvs_snoc (L : List Pc) (c : Pc) : pvs (L ++ [c]) = pvs L ++ [.slice c.da c.ds.length c.dc] := by simp [pvs]
theorem joined_snoc (L : List Pc) (c : Pc) : joined (L ++ [c]) = joined L ++ c.ds := by simp [joined]

theorem Try.infoRow : (Try.prog.info? 31).map (fun i => (i.zero, i.size, i.bytes)) = some (some (.slice none 0 0), 1, 24) := by kernel_rfl

theorem own_keptl {l : List Nat} {w w' : World} {base : Nat} {e : TypeId} {size : Nat} {v : Value} {n : Nat} {xs : List Value} (h : w.ownsRow base e size v n xs) (hk : Kept l w w') (hn : ∀ k, v.ownBlock = some k → k ∉ l) : w'.ownsRow base e size v n xs := by
  refine ⟨h.1, ?_⟩
  rcases h.2 with h2 | ⟨g, cap, cur, rfl, hb, hg, hr⟩
  · exact .inl h2
  · exact .inr ⟨g, cap, cur, rfl, hb, (hk.block g (Array.getElem?_eq_some_iff.1 hg).1 (hn g rfl)).trans hg, hr⟩

theorem own_shape {w : World} {base : Nat} {e : TypeId} {size : Nat} {v : Value} {n : Nat} {xs : List Value} (h : w.ownsRow base e size v n xs) : ∃ ao c, v = .slice ao n c := by
  rcases h.2 with ⟨rfl, rfl⟩ | ⟨g, cap, cur, rfl, _⟩
  · exact ⟨none, 0, by have := h.1; simp at this; rcases this with rfl | hh <;> simp_all⟩
  · exact ⟨_, _, rfl⟩

/-- What lies there so far: t bytes are taken, in pieces L; the rest. -/
structure PcRel (w wr : World) (base Hb : Nat) (xs : List UInt8) (t : Nat) (v : Value) (i : Nat) (L : List Pc) (ro : Option Addr) (rc : Nat) (dao : Option Addr) : Prop where
  hs : Hs wr Hb 29 [] [] (xs.take t)
  own : wr.ownsRow base 31 1 v i (pvs L)
  len : L.length = i
  join : joined L = xs.take t
  pcs : ∀ c ∈ L, Sl w c.da c.ds ∧ c.ds.length ≤ c.dc
  rest : Sl w ro (xs.drop t)
  le : xs.length - t ≤ rc
  far : ∀ a, ro = some a → ∃ b, dao = some b ∧ a.block = b.block
  t : t ≤ xs.length
  kept : Kept [] w wr
  ge : w.heap.size ≤ base ∧ w.heap.size ≤ Hb ∧ Hb < base ∧ base ≤ wr.heap.size

end Go.Proofs.Ythfbpbibpgblaaa
