/-
  A pair of two disks that are none, or of nothing, with its desk.
-/
import Derived.Test.YtmoaaimjgdbelaaGreatRhc
namespace Go.Proofs.YtmoaaimjgdbelaaGreat
open Go.RowKit Dsk
set_option linter.unusedVariables false
set_option linter.unusedSimpArgs false
structure Nq (X : Nat → Prop) (w : World) (P : Nat) (dv rv : Value) (D : Nat) (bo : Option Nat) (R : List UInt8) : Prop where
  od : OffD dv w
  oe : OffR rv w
  cells : w.heap[P]? = some (.cells #[dv, rv, .pointer (some ⟨D, 0, none⟩)] 47 (0, 0))
  dk : Dk w D bo R
  dp : ∃ v0, w.cell? ⟨D, 1, none⟩ = some v0
  df : w.frozen? ⟨D, 1, none⟩ = false
  far : ∀ b, X b → ¬ prB P D bo b
  lim : ∀ b, X b → b < w.heap.size
  dz : ∀ b, dv = .pointer (some ⟨b, 0, none⟩) → ¬ X b ∧ ¬ prB P D bo b
  ez : ∀ b, rv = .pointer (some ⟨b, 0, none⟩) → ¬ X b ∧ ¬ prB P D bo b
  pD : P ≠ D
  pb : bo ≠ some P
section
variable {X Y : Nat → Prop} {w w' : World} {P D : Nat} {dv rv : Value} {bo : Option Nat} {R : List UInt8}
theorem OffD.lt (h : OffD dv w) {b : Nat} (e : dv = .pointer (some ⟨b, 0, none⟩)) : b < w.heap.size := by
  rcases h with h | ⟨p, h, h2⟩
  · rw [h] at e; cases e
  · rw [h] at e; cases e; exact (Array.getElem?_eq_some_iff.1 h2).1
theorem OffR.lt (h : OffR rv w) {b : Nat} (e : rv = .pointer (some ⟨b, 0, none⟩)) : b < w.heap.size := by
  rcases h with h | ⟨p, h, h2⟩
  · rw [h] at e; cases e
  · rw [h] at e; cases e; exact (Array.getElem?_eq_some_iff.1 h2).1
theorem off_ne (h : OffD dv w) (k : OffR rv w) {b : Nat} (e : dv = .pointer (some ⟨b, 0, none⟩)) : rv ≠ .pointer (some ⟨b, 0, none⟩) := by
  intro e2
  rcases h with h | ⟨p, h, h2⟩
  · rw [h] at e; cases e
  · rcases k with k | ⟨q, k, k2⟩
    · rw [k] at e2; cases e2
    · rw [h] at e; cases e; rw [k] at e2; cases e2; rw [h2] at k2; cases k2
theorem Nq.prlt (h : Nq X w P dv rv D bo R) {b : Nat} (hb : prB P D bo b) : b < w.heap.size := by
  rcases hb with rfl | rfl | hb
  · exact (Array.getElem?_eq_some_iff.1 h.cells).1
  · exact h.dk.lt
  · exact h.dk.ltg b hb
/-- What moves is nobody's of these. -/
theorem Nq.keep {F : Nat → Prop} (h : Nq X w P dv rv D bo R) (hk : Keep F w w') (h1 : ∀ b, prB P D bo b → ¬ F b) (h2 : ∀ b, dv = .pointer (some ⟨b, 0, none⟩) → ¬ F b) (h3 : ∀ b, rv = .pointer (some ⟨b, 0, none⟩) → ¬ F b) (hY : ∀ b, Y b → (X b ∨ w.heap.size ≤ b) ∧ b < w'.heap.size) : Nq Y w' P dv rv D bo R := by
  obtain ⟨v0, hv0⟩ := h.dp
  have hD : ¬ F D := h1 D (.inr (.inl rfl))
  refine ⟨h.od.keep hk h2, h.oe.keep hk h3, ?_, ⟨hk.cellOf h.dk.cell hD, (hk.frozen (World.block_lt_of_cell? _ _ h.dk.cell) hD).trans h.dk.fr, h.dk.none, fun g e => ⟨(h.dk.row g e).1, ?_⟩, h.dk.small⟩, ⟨v0, hk.cellOf hv0 hD⟩, (hk.frozen (World.block_lt_of_cell? _ _ hv0) hD).trans h.df, fun b hb hp => ?_, fun b hb => (hY b hb).2, fun b e => ⟨fun hb => ?_, (h.dz b e).2⟩, fun b e => ⟨fun hb => ?_, (h.ez b e).2⟩, h.pD, h.pb⟩
  · rw [hk.block P (Array.getElem?_eq_some_iff.1 h.cells).1 (h1 P (.inl rfl))]; exact h.cells
  · rw [hk.block g (Array.getElem?_eq_some_iff.1 (h.dk.row g e).2).1 (h1 g (.inr (.inr e)))]; exact (h.dk.row g e).2
  · rcases (hY b hb).1 with h7 | h7
    · exact h.far b h7 hp
    · have := h.prlt hp; omega
  · rcases (hY b hb).1 with h7 | h7
    · exact (h.dz b e).1 h7
    · have := h.od.lt e; omega
  · rcases (hY b hb).1 with h7 | h7
    · exact (h.ez b e).1 h7
    · have := h.oe.lt e; omega
theorem Nq.more (h : Nq X w P dv rv D bo R) (hk : Kept [] w w') (hY : ∀ b, Y b → (X b ∨ w.heap.size ≤ b) ∧ b < w'.heap.size) : Nq Y w' P dv rv D bo R := h.keep (Keep.ofNone (F := fun _ => False) hk) (fun _ _ h => h) (fun _ _ h => h) (fun _ _ h => h) hY
theorem Nq.kept (h : Nq X w P dv rv D bo R) (hk : Kept [] w w') : Nq X w' P dv rv D bo R := h.more hk (fun b hb => ⟨.inl hb, Nat.lt_of_lt_of_le (h.lim b hb) hk.size⟩)
theorem Nq.less (h : Nq X w P dv rv D bo R) (hY : ∀ b, Y b → X b) : Nq Y w P dv rv D bo R := h.more (Kept.refl [] w) (fun b hb => ⟨.inl (hY b hb), h.lim b (hY b hb)⟩)
theorem Nq.lt (h : Nq X w P dv rv D bo R) {b : Nat} (hb : X b) : b < w.heap.size := h.lim b hb
theorem Nq.cell (h : Nq X w P dv rv D bo R) (j : Nat) (v : Value) (hv : (#[dv, rv, .pointer (some ⟨D, 0, none⟩)] : Array Value)[j]? = some v) : w.cell? ⟨P, j, none⟩ = some v := by
  rw [cell_of_row w _ j _ _ _ h.cells]; simpa using hv
/-- What a step reads. -/
structure Rd3 (P : Nat) (dv rv : Value) (D bx : Nat) (cs : List Value) (v : World) : Prop where
  p0 : v.cell? ⟨P, 0, none⟩ = some dv
  p1 : v.cell? ⟨P, 1, none⟩ = some rv
  p2 : v.cell? ⟨P, 2, none⟩ = some (.pointer (some ⟨D, 0, none⟩))
  bx : ∀ j u, cs[j]? = some u → v.cell? ⟨bx, j, none⟩ = some u
theorem Rd3.keep {F : Nat → Prop} {bx : Nat} {cs : List Value} {v v' : World} (h : Rd3 P dv rv D bx cs v) (hk : Keep F v v') (h1 : ¬ F P) (h2 : ¬ F bx) : Rd3 P dv rv D bx cs v' :=
  ⟨hk.cellOf h.p0 h1, hk.cellOf h.p1 h1, hk.cellOf h.p2 h1, fun j u hu => hk.cellOf (h.bx j u hu) h2⟩
theorem Rd3.kept {bx : Nat} {cs : List Value} {v v' : World} (h : Rd3 P dv rv D bx cs v) (hk : Kept [] v v') : Rd3 P dv rv D bx cs v' := h.keep (Keep.ofNone (F := fun _ => False) hk) id id
theorem Rd3.mv {bx : Nat} {cs : List Value} {v v' : World} (h : Rd3 P dv rv D bx cs v) (hk : Keep (Mvs X P D bo) v v') (hx : X bx) : Rd3 P dv rv D bx cs v' :=
  h.keep hk (fun hn => hn (.inr (.inl rfl))) (fun hn => hn (.inl hx))
theorem Nq.box (h : Nq X w P dv rv D bo R) (cs : List Value) (t : TypeId) {w1 : World} (hw : w1 = w.alloc (.cells cs.toArray t)) :
    Nq (fun b => X b ∨ b = w.heap.size) w1 P dv rv D bo R ∧ Rd3 P dv rv D w.heap.size cs w1 ∧ Kept [] w w1 := by
  have hk : Kept [] w w1 := by rw [hw]; exact (Kept.refl [] w).alloc _
  have hb : w1.heap[w.heap.size]? = some (.cells cs.toArray t (0, 0)) := by rw [hw]; exact (MapKept.heap_alloc w _).1
  have hl := (Array.getElem?_eq_some_iff.1 hb).1
  have h1 : Nq (fun b => X b ∨ b = w.heap.size) w1 P dv rv D bo R := h.more hk (fun b hb => by
    rcases hb with hb | rfl
    · exact ⟨.inl hb, Nat.lt_of_lt_of_le (h.lt hb) hk.size⟩
    · exact ⟨.inr (Nat.le_refl _), hl⟩)
  exact ⟨h1, ⟨h1.cell 0 _ rfl, h1.cell 1 _ rfl, h1.cell 2 _ rfl, fun j u hu => by rw [cell_of_row w1 _ j _ _ _ hb]; simpa using hu⟩, hk⟩
/-- The Desk has been laid anew. -/
theorem Nq.lay {g : Nat} {R' : List UInt8} (h : Nq X w P dv rv D bo R) (hk : Kept (dkfp D bo) w w') (hd : Dk w' D (some g) R') (hg : bo = some g ∨ w.heap.size ≤ g) (h1 : ∃ v0, w'.cell? ⟨D, 1, none⟩ = some v0) (h2 : w'.frozen? ⟨D, 1, none⟩ = false) : Nq X w' P dv rv D (some g) R' := by
  have hm : ∀ b, b ∈ dkfp D bo → prB P D bo b := fun b hf => by
    simp only [dkfp, List.mem_cons, Option.mem_toList, Option.mem_def] at hf
    exact .inr hf
  have hPl := (Array.getElem?_eq_some_iff.1 h.cells).1
  have hK := Keep.ofKept hk
  have hgP : g ≠ P := by
    rintro rfl
    rcases hg with e | e
    · exact h.pb e
    · omega
  have hnew : ∀ b, (X b ∨ dv = .pointer (some ⟨b, 0, none⟩) ∨ rv = .pointer (some ⟨b, 0, none⟩)) → ¬ prB P D (some g) b := fun b hb hp => by
    have hlt : b < w.heap.size ∧ ¬ prB P D bo b := by
      rcases hb with hb | hb | hb
      · exact ⟨h.lim b hb, h.far b hb⟩
      · exact ⟨h.od.lt hb, (h.dz b hb).2⟩
      · exact ⟨h.oe.lt hb, (h.ez b hb).2⟩
    rcases hp with hp | hp | hp
    · exact hlt.2 (.inl hp)
    · exact hlt.2 (.inr (.inl hp))
    · obtain rfl := Option.some.inj hp
      rcases hg with e | e
      · exact hlt.2 (.inr (.inr e))
      · have := hlt.1; omega
  refine ⟨h.od.keep hK (fun b e hf => (h.dz b e).2 (hm b hf)), h.oe.keep hK (fun b e hf => (h.ez b e).2 (hm b hf)), ?_, hd, h1, h2, fun b hb => hnew b (.inl hb), fun b hb => Nat.lt_of_lt_of_le (h.lim b hb) hk.size, fun b e => ⟨(h.dz b e).1, hnew b (.inr (.inl e))⟩, fun b e => ⟨(h.ez b e).1, hnew b (.inr (.inr e))⟩, h.pD, fun e => hgP (Option.some.inj e)⟩
  rw [hk.block P hPl (by simp only [dkfp, List.mem_cons, Option.mem_toList, Option.mem_def, not_or]; exact ⟨h.pD, h.pb⟩)]; exact h.cells
/-- The Desk's picks are laid anew. -/
theorem Nq.pick (h : Nq X w P dv rv D bo R) (hk : Kept [D] w w') (h0 : One 0 D w w') (h1 : ∃ v0, w'.cell? ⟨D, 1, none⟩ = some v0) (h2 : w'.frozen? ⟨D, 1, none⟩ = false) (hY : ∀ b, Y b → (X b ∨ w.heap.size ≤ b) ∧ b < w'.heap.size) : Nq Y w' P dv rv D bo R := by
  have hm : ∀ b, b ∈ [D] → prB P D bo b := fun b hf => .inr (.inl (by simpa using hf))
  have hK := Keep.ofKept hk
  refine ⟨h.od.keep hK (fun b e hf => (h.dz b e).2 (hm b hf)), h.oe.keep hK (fun b e hf => (h.ez b e).2 (hm b hf)), ?_, ⟨h0.1 _ h.dk.cell, (h0.2 h.dk.lt).trans h.dk.fr, h.dk.none, fun g e => ⟨(h.dk.row g e).1, ?_⟩, h.dk.small⟩, h1, h2, fun b hb hp => ?_, fun b hb => (hY b hb).2, fun b e => ⟨fun hb => ?_, (h.dz b e).2⟩, fun b e => ⟨fun hb => ?_, (h.ez b e).2⟩, h.pD, h.pb⟩
  · rw [hk.block P (Array.getElem?_eq_some_iff.1 h.cells).1 (by simpa using h.pD)]; exact h.cells
  · rw [hk.block g (Array.getElem?_eq_some_iff.1 (h.dk.row g e).2).1 (by simpa using (h.dk.row g e).1)]; exact (h.dk.row g e).2
  · rcases (hY b hb).1 with h7 | h7
    · exact h.far b h7 hp
    · have := h.prlt hp; omega
  · rcases (hY b hb).1 with h7 | h7
    · exact (h.dz b e).1 h7
    · have := h.od.lt e; omega
  · rcases (hY b hb).1 with h7 | h7
    · exact (h.ez b e).1 h7
    · have := h.oe.lt e; omega
end
end Go.Proofs.YtmoaaimjgdbelaaGreat
