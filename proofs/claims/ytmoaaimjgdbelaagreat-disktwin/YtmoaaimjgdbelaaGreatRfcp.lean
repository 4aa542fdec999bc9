/-
  The pair: a disk of the program's and one of the document's, side by side, with the desk; what stays beside them.
-/
import Derived.Test.YtmoaaimjgdbelaaGreatHlp
import Derived.Test.YtmoaaimjgdbelaaGreatRfap
import Derived.Test.YtmoaaimjgdbelaaGreatRew2p
import Derived.Test.YtmoaaimjgdbelaaGreatHpp
namespace Go.Proofs.YtmoaaimjgdbelaaGreat
open Go.RowKit Dsk
set_option linter.unusedVariables false
set_option linter.unusedSimpArgs false

/-- The program's disk at p, the document's at q, and blocks that are neither's. -/
def Twr (X : Nat → Prop) (w : World) (p : Nat) (S : Ds) (N : Nat) (q : Nat) (T : Ds) (M : Nat) : Prop :=
  ∃ A o A' o', PD w p S A o ∧ RD w q T A' o' ∧ (∀ b, o b ≠ 0 → o' b = 0) ∧ (∀ b, X b → o b = 0 ∧ o' b = 0 ∧ b < w.heap.size) ∧ S.Bd N ∧ T.Bd M
section
variable {X : Nat → Prop} {w : World} {p : Nat} {S : Ds} {N : Nat} {q : Nat} {T : Ds} {M : Nat}
theorem Twr.one (h : Twr X w p S N q T M) : ∃ Y, (∀ b, X b → Y b) ∧ Ax Y w w p S N ∧ ∀ w' S' N', Ax Y w w' p S' N' → Twr X w' p S' N' q T M ∧ Keep (fun b => ¬ X b) w w' := by
  obtain ⟨A, o, A', o', h1, h2, h3, h4, h5, h6⟩ := h
  refine ⟨fun b => X b ∨ o' b ≠ 0, fun _ h => .inl h, ⟨A, o, h1, fun b hb => ?_, Keep.refl _ _, h5⟩, fun w' S' N' hY => ?_⟩
  · rcases hb with hb | hb
    · exact ⟨(h4 b hb).1, (h4 b hb).2.2⟩
    · exact ⟨Classical.byContradiction fun hn => hb (h3 b hn), h2.lim b hb⟩
  · obtain ⟨A2, o2, g1, g2, g3, g4⟩ := hY
    refine ⟨⟨A2, o2, A', o', g1, h2.keep g3 (fun b hb hn => hn (.inr hb)), fun b hb => Classical.byContradiction fun hn => hb (g2 b (.inr hn)).1, fun b hb => ⟨(g2 b (.inl hb)).1, (h4 b hb).2.1, Nat.lt_of_lt_of_le (h4 b hb).2.2 g3.size⟩, g4, h6⟩, g3.mono (fun b hb _ hx => hb (.inl hx))⟩
theorem Twr.two (h : Twr X w p S N q T M) : ∃ A' o', RD w q T A' o' ∧ (∀ b, X b → o' b = 0 ∧ b < w.heap.size) ∧ ∀ w' T' M', RAft w w' q T' o' → T'.Bd M' → Twr X w' p S N q T' M' ∧ Keep (fun b => ¬ X b) w w' := by
  obtain ⟨A, o, A', o', h1, h2, h3, h4, h5, h6⟩ := h
  refine ⟨A', o', h2, fun b hb => (h4 b hb).2, fun w' T' M' hR hb' => ?_⟩
  obtain ⟨A2, o2, g1, g2, g3⟩ := hR
  have hm : ∀ b, o b ≠ 0 → ¬ o'.mine b := fun b hb hm => hm (h3 b hb)
  refine ⟨⟨A, o, A2, o2, h1.keep g3 hm, g1, fun b hb => Classical.byContradiction fun hn => ?_, fun b hb => ⟨(h4 b hb).1, Classical.byContradiction fun hn => g2 b (h4 b hb).2.2 hn (h4 b hb).2.1, Nat.lt_of_lt_of_le (h4 b hb).2.2 g3.size⟩, h5, hb'⟩, g3.mono (fun b hm _ hx => hm (h4 b hx).2.1)⟩
  exact g2 b (h1.lim hb) hn (h3 b hb)
theorem Twr.kept {w' : World} (h : Twr X w p S N q T M) (hk : Kept [] w w') : Twr X w' p S N q T M := by
  obtain ⟨Y, _, h1, h2⟩ := h.one
  exact (h2 w' S N (h1.kept hk)).1
theorem Twr.wf1 (h : Twr X w p S N q T M) : S.Wf := by obtain ⟨Y, _, h1, _⟩ := h.one; exact h1.wf
theorem Twr.wf2 (h : Twr X w p S N q T M) : T.Wf := by obtain ⟨_, _, h1, _⟩ := h.two; exact h1.wf
theorem Twr.bd1 (h : Twr X w p S N q T M) : S.Bd N := by obtain ⟨Y, _, h1, _⟩ := h.one; exact h1.bd
theorem Twr.bd2 (h : Twr X w p S N q T M) : T.Bd M := by obtain ⟨A, o, A', o', h1, h2, h3, h4, h5, h6⟩ := h; exact h6
theorem Twr.mono {N' M' : Nat} (h : Twr X w p S N q T M) (hn : N ≤ N') (hm : M ≤ M') : Twr X w p S N' q T M' := by
  obtain ⟨A, o, A', o', h1, h2, h3, h4, h5, h6⟩ := h
  exact ⟨A, o, A', o', h1, h2, h3, h4, h5.mono hn, h6.mono hm⟩
theorem Twr.less {Y : Nat → Prop} (h : Twr X w p S N q T M) (hY : ∀ b, Y b → X b) : Twr Y w p S N q T M := by
  obtain ⟨A, o, A', o', h1, h2, h3, h4, h5, h6⟩ := h
  exact ⟨A, o, A', o', h1, h2, h3, fun b hb => h4 b (hY b hb), h5, h6⟩
theorem Twr.free (h : Twr X w p S N q T M) {w' : World} {Y F : Nat → Prop} (hk : Keep F w w') (hF : ∀ b, b < w.heap.size → F b → X b) (hY : ∀ b, Y b → (X b ∨ w.heap.size ≤ b) ∧ b < w'.heap.size) : Twr Y w' p S N q T M := by
  obtain ⟨A, o, A', o', h1, h2, h3, h4, h5, h6⟩ := h
  have n1 : ∀ b, w.heap.size ≤ b → o b = 0 := fun b hb => Classical.byContradiction fun hn => by have := h1.lim hn; omega
  have n2 : ∀ b, w.heap.size ≤ b → o' b = 0 := fun b hb => Classical.byContradiction fun hn => by have := h2.lim b hn; omega
  refine ⟨A, o, A', o', h1.keep hk (fun b hb hf => hb (h4 b (hF b (h1.lim hb) hf)).1), h2.keep hk (fun b hb hf => hb (h4 b (hF b (h2.lim b hb) hf)).2.1), h3, fun b hb => ?_, h5, h6⟩
  obtain ⟨h7, h8⟩ := hY b hb
  rcases h7 with h7 | h7
  · exact ⟨(h4 b h7).1, (h4 b h7).2.1, h8⟩
  · exact ⟨n1 b h7, n2 b h7, h8⟩
end

theorem Keep.frozen {F : Nat → Prop} {w w' : World} (h : Keep F w w') {p : Addr} (hp : p.block < w.heap.size) (hn : ¬ F p.block) : w'.frozen? p = w.frozen? p := World.frozen?_of_block (w := w) (h.block p.block hp hn)

/-- The blocks of the Pair and of its Desk. -/
def prB (P D : Nat) (bo : Option Nat) (b : Nat) : Prop := b = P ∨ b = D ∨ bo = some b

/-- The Pair at block P: its two disks, its Desk; of the blocks X none is any of theirs. -/
structure Pq (X : Nat → Prop) (w : World) (P p q D : Nat) (bo : Option Nat) (R : List UInt8) (S : Ds) (N : Nat) (T : Ds) (M : Nat) : Prop where
  tw : Twr (fun b => X b ∨ prB P D bo b) w p S N q T M
  cells : w.heap[P]? = some (.cells #[.pointer (some ⟨p, 0, none⟩), .pointer (some ⟨q, 0, none⟩), .pointer (some ⟨D, 0, none⟩)] 47 (0, 0))
  dk : Dk w D bo R
  dp : ∃ v0, w.cell? ⟨D, 1, none⟩ = some v0
  df : w.frozen? ⟨D, 1, none⟩ = false
  far : ∀ b, X b → ¬ prB P D bo b
  pD : P ≠ D
  pb : bo ≠ some P
section
variable {X : Nat → Prop} {w w' : World} {P p q D : Nat} {bo : Option Nat} {R : List UInt8} {S : Ds} {N : Nat} {T : Ds} {M : Nat}
/-- The Pair's and the Desk's own blocks stay where what moves is neither theirs nor X's. -/
theorem Pq.step {S' T' : Ds} {N' M' : Nat} {p' q' : Nat} (h : Pq X w P p q D bo R S N T M) (ht : Twr (fun b => X b ∨ prB P D bo b) w' p S' N' q T' M') (hk : Keep (fun b => ¬ (X b ∨ prB P D bo b)) w w') : Pq X w' P p q D bo R S' N' T' M' := by
  have hD : ¬ (fun b => ¬ (X b ∨ prB P D bo b)) D := fun hn => hn (.inr (.inr (.inl rfl)))
  obtain ⟨v0, hv0⟩ := h.dp
  refine ⟨ht, ?_, ⟨hk.cellOf h.dk.cell hD, (hk.frozen (World.block_lt_of_cell? _ _ h.dk.cell) hD).trans h.dk.fr, h.dk.none, fun g e => ⟨(h.dk.row g e).1, ?_⟩, h.dk.small⟩, ⟨v0, hk.cellOf hv0 hD⟩, (hk.frozen (World.block_lt_of_cell? _ _ hv0) hD).trans h.df, h.far, h.pD, h.pb⟩
  · rw [hk.block P (Array.getElem?_eq_some_iff.1 h.cells).1 (fun hn => hn (.inr (.inl rfl)))]; exact h.cells
  · rw [hk.block g (Array.getElem?_eq_some_iff.1 (h.dk.row g e).2).1 (fun hn => hn (.inr (.inr (.inr e))))]; exact (h.dk.row g e).2
theorem Pq.stepY {Y : Nat → Prop} {S' T' : Ds} {N' M' : Nat} (h : Pq X w P p q D bo R S N T M) (ht : Twr (fun b => Y b ∨ prB P D bo b) w' p S' N' q T' M') (hk : Keep (fun b => ¬ (X b ∨ prB P D bo b)) w w') (hY : ∀ b, Y b → ¬ prB P D bo b) : Pq Y w' P p q D bo R S' N' T' M' := by
  have hD : ¬ (fun b => ¬ (X b ∨ prB P D bo b)) D := fun hn => hn (.inr (.inr (.inl rfl)))
  obtain ⟨v0, hv0⟩ := h.dp
  refine ⟨ht, ?_, ⟨hk.cellOf h.dk.cell hD, (hk.frozen (World.block_lt_of_cell? _ _ h.dk.cell) hD).trans h.dk.fr, h.dk.none, fun g e => ⟨(h.dk.row g e).1, ?_⟩, h.dk.small⟩, ⟨v0, hk.cellOf hv0 hD⟩, (hk.frozen (World.block_lt_of_cell? _ _ hv0) hD).trans h.df, hY, h.pD, h.pb⟩
  · rw [hk.block P (Array.getElem?_eq_some_iff.1 h.cells).1 (fun hn => hn (.inr (.inl rfl)))]; exact h.cells
  · rw [hk.block g (Array.getElem?_eq_some_iff.1 (h.dk.row g e).2).1 (fun hn => hn (.inr (.inr (.inr e))))]; exact (h.dk.row g e).2
theorem Pq.kept (h : Pq X w P p q D bo R S N T M) (hk : Kept [] w w') : Pq X w' P p q D bo R S N T M := h.step (p' := p) (q' := q) (h.tw.kept hk) (Keep.ofNone hk)
theorem Pq.mono {N' M' : Nat} (h : Pq X w P p q D bo R S N T M) (hn : N ≤ N') (hm : M ≤ M') : Pq X w P p q D bo R S N' T M' := ⟨h.tw.mono hn hm, h.cells, h.dk, h.dp, h.df, h.far, h.pD, h.pb⟩
theorem Pq.cell (h : Pq X w P p q D bo R S N T M) (j : Nat) (v : Value) (hv : (#[Value.pointer (some ⟨p, 0, none⟩), .pointer (some ⟨q, 0, none⟩), .pointer (some ⟨D, 0, none⟩)] : Array Value)[j]? = some v) : w.cell? ⟨P, j, none⟩ = some v := by
  rw [cell_of_row w _ j _ _ _ h.cells]; simpa using hv
theorem Pq.lt (h : Pq X w P p q D bo R S N T M) {b : Nat} (hb : X b) : b < w.heap.size := by
  obtain ⟨_, _, _, h1, _⟩ := h.tw.two; exact (h1 b (.inl hb)).2
/-- What came new is laid to X. -/
theorem Pq.more {Y : Nat → Prop} (h : Pq X w P p q D bo R S N T M) (hk : Kept [] w w') (hY : ∀ b, Y b → (X b ∨ w.heap.size ≤ b) ∧ b < w'.heap.size) : Pq Y w' P p q D bo R S N T M := by
  have h' := h.kept hk
  obtain ⟨_, _, _, h1, _⟩ := h.tw.two
  have hlt : ∀ b, prB P D bo b → b < w.heap.size := fun b hb => (h1 b (.inr hb)).2
  refine ⟨h.tw.free (Keep.ofNone (F := fun _ => False) hk) (fun _ _ hf => hf.elim) (fun b hb => ?_), h'.cells, h'.dk, h'.dp, h'.df, fun b hb hp => ?_, h.pD, h.pb⟩
  · rcases hb with hb | hb
    · obtain ⟨h7, h8⟩ := hY b hb
      exact ⟨h7.imp .inl id, h8⟩
    · exact ⟨.inl (.inr hb), Nat.lt_of_lt_of_le (hlt b hb) hk.size⟩
  · rcases (hY b hb).1 with h7 | h7
    · exact h.far b h7 hp
    · have := hlt b hp; omega
theorem Pq.less {Y : Nat → Prop} (h : Pq X w P p q D bo R S N T M) (hY : ∀ b, Y b → X b) : Pq Y w P p q D bo R S N T M :=
  ⟨h.tw.less (fun b hb => hb.imp (hY b) id), h.cells, h.dk, h.dp, h.df, fun b hb => h.far b (hY b hb), h.pD, h.pb⟩
/-- A call of the program's disk. -/
theorem Pq.one (h : Pq X w P p q D bo R S N T M) : ∃ Y, (∀ b, X b ∨ prB P D bo b → Y b) ∧ Ax Y w w p S N ∧ ∀ w' S' N', Ax Y w w' p S' N' → Pq X w' P p q D bo R S' N' T M ∧ Keep (fun b => ¬ (X b ∨ prB P D bo b)) w w' := by
  obtain ⟨Y, hY, h1, h2⟩ := h.tw.one
  exact ⟨Y, hY, h1, fun w' S' N' ha => ⟨h.step (p' := p) (q' := q) (h2 w' S' N' ha).1 (h2 w' S' N' ha).2, (h2 w' S' N' ha).2⟩⟩
/-- A call of the document's. -/
theorem Pq.two (h : Pq X w P p q D bo R S N T M) : ∃ A' o', RD w q T A' o' ∧ (∀ b, X b ∨ prB P D bo b → o' b = 0) ∧ ∀ w' T' M', RAft w w' q T' o' → T'.Bd M' → Pq X w' P p q D bo R S N T' M' ∧ Keep (fun b => ¬ (X b ∨ prB P D bo b)) w w' := by
  obtain ⟨A', o', h1, h3, h2⟩ := h.tw.two
  exact ⟨A', o', h1, fun b hb => (h3 b hb).1, fun w' T' M' ha hb => ⟨h.step (p' := p) (q' := q) (h2 w' T' M' ha hb).1 (h2 w' T' M' ha hb).2, (h2 w' T' M' ha hb).2⟩⟩
/-- The Desk has been laid anew. -/
theorem Pq.lay {g : Nat} {R' : List UInt8} (h : Pq X w P p q D bo R S N T M) (hk : Kept (dkfp D bo) w w') (hd : Dk w' D (some g) R') (hg : bo = some g ∨ w.heap.size ≤ g) (h1 : ∃ v0, w'.cell? ⟨D, 1, none⟩ = some v0) (h2 : w'.frozen? ⟨D, 1, none⟩ = false) : Pq X w' P p q D (some g) R' S N T M := by
  obtain ⟨_, _, _, hx, _⟩ := h.tw.two
  have hlt : ∀ b, X b ∨ prB P D bo b → b < w.heap.size := fun b hb => (hx b hb).2
  have hgl := hd.ltg g rfl
  have hPl := hlt P (.inr (.inl rfl))
  have hgP : g ≠ P := by
    rintro rfl
    rcases hg with e | e
    · exact h.pb e
    · omega
  refine ⟨h.tw.free (F := fun b => b ∈ dkfp D bo) (Keep.ofKept hk) (fun b _ hf => ?_) (fun b hb => ?_), ?_, hd, h1, h2, fun b hb hp => ?_, h.pD, fun e => hgP (Option.some.inj e)⟩
  · simp only [dkfp, List.mem_cons, Option.mem_toList, Option.mem_def] at hf
    rcases hf with e | e
    · exact .inr (.inr (.inl e))
    · exact .inr (.inr (.inr e))
  · rcases hb with hb | hb | hb | hb
    · exact ⟨.inl (.inl hb), Nat.lt_of_lt_of_le (hlt b (.inl hb)) hk.size⟩
    · exact ⟨.inl (.inr (.inl hb)), Nat.lt_of_lt_of_le (hlt b (.inr (.inl hb))) hk.size⟩
    · exact ⟨.inl (.inr (.inr (.inl hb))), Nat.lt_of_lt_of_le (hlt b (.inr (.inr (.inl hb)))) hk.size⟩
    · obtain rfl := Option.some.inj hb
      exact ⟨hg.imp (fun e => .inr (.inr (.inr e))) id, hgl⟩
  · rw [hk.block P hPl (by simp only [dkfp, List.mem_cons, Option.mem_toList, Option.mem_def, not_or]; exact ⟨h.pD, h.pb⟩)]; exact h.cells
  · rcases hp with hp | hp | hp
    · exact h.far b hb (.inl hp)
    · exact h.far b hb (.inr (.inl hp))
    · obtain rfl := Option.some.inj hp
      rcases hg with e | e
      · exact h.far _ hb (.inr (.inr e))
      · have := hlt _ (.inl hb); omega
end
end Go.Proofs.YtmoaaimjgdbelaaGreat
