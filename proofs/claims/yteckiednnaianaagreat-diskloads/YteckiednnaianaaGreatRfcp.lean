import Derived.Test.YteckiednnaianaaGreatIf0p
import Derived.Test.YteckiednnaianaaGreatRew2p
import Derived.Test.YteckiednnaianaaGreatHpp
import Derived.Test.YteckiednnaianaaGreatRefp
import Derived.StillTailTactics
namespace Go.Proofs.YteckiednnaianaaGreat
section
open Go.RowKit Dsk
set_option linter.unusedVariables false
set_option linter.unusedSimpArgs false
def Twr (X : Nat → Prop) (w : World) (p : Nat) (S : Ds) (N : Nat) (q : Nat) (T : Ds) (M : Nat) : Prop :=
 ∃ A o A' o', PD w p S A o ∧ RD w q T A' o' ∧ (∀ b, o b ≠ 0 → o' b = 0) ∧ (∀ b, X b → o b = 0 ∧ o' b = 0 ∧ b < w.heap.size) ∧ S.Bd N ∧ T.Bd M
section
variable {X : Nat → Prop} {w : World} {p : Nat} {S : Ds} {N : Nat} {q : Nat} {T : Ds} {M : Nat}
theorem Twr.one (h : Twr X w p S N q T M) : ∃ Y, (∀ b, X b → Y b) ∧ Ax Y w w p S N ∧ ∀ w' S' N', Ax Y w w' p S' N' → Twr X w' p S' N' q T M ∧ Keep (fun b => ¬ X b) w w' := by
 obtain ⟨A, o, A', o', h1, h2, h3, h4, h5, h6⟩ := h
 refine ⟨fun b => X b ∨ o' b ≠ 0, fun _ h => .inl h, ⟨A, o, h1, fun b hb => ?_, Keep.refl _ _, h5⟩, fun w' S' N' hY => ?_⟩
 ·rcases hb with hb | hb
  ·exact ⟨(h4 b hb).1, (h4 b hb).2.2⟩
  ·exact ⟨Classical.byContradiction fun hn => hb (h3 b hn), h2.lim b hb⟩
 ·obtain ⟨A2, o2, g1, g2, g3, g4⟩ := hY
  refine ⟨⟨A2, o2, A', o', g1, h2.keep g3 (fun b hb hn => hn (.inr hb)), fun b hb => Classical.byContradiction fun hn => hb (g2 b (.inr hn)).1, fun b hb => ⟨(g2 b (.inl hb)).1, (h4 b hb).2.1, Nat.lt_of_lt_of_le (h4 b hb).2.2 g3.size⟩, g4, h6⟩, g3.mono (fun b hb _ hx => hb (.inl hx))⟩
theorem Twr.two (h : Twr X w p S N q T M) : ∃ A' o', RD w q T A' o' ∧ (∀ b, X b → o' b = 0 ∧ b < w.heap.size) ∧ ∀ w' T' M', RAft w w' q T' o' → T'.Bd M' → Twr X w' p S N q T' M' ∧ Keep (fun b => ¬ X b) w w' := by
 obtain ⟨A, o, A', o', h1, h2, h3, h4, h5, h6⟩ := h
 refine ⟨A', o', h2, fun b hb => (h4 b hb).2, fun w' T' M' hR hb' => ?_⟩
 obtain ⟨A2, o2, g1, g2, g3⟩ := hR
 have hm : ∀ b, o b ≠ 0 → ¬ o'.mine b := fun b hb hm => hm (h3 b hb)
 refine ⟨⟨A, o, A2, o2, h1.keep g3 hm, g1, fun b hb => Classical.byContradiction fun hn => ?_, fun b hb => ⟨(h4 b hb).1, Classical.byContradiction fun hn => g2 b (h4 b hb).2.2 hn (h4 b hb).2.1, Nat.lt_of_lt_of_le (h4 b hb).2.2 g3.size⟩, h5, hb'⟩, g3.mono (fun b hm _ hx => hm (h4 b hx).2.1)⟩
 exact g2 b (h1.lim hb) hn (h3 b hb)
theorem Twr.kept {w' : World} (h : Twr X w p S N q T M) (hk : Kept [] w w') : Twr X w' p S N q T M := by
 obtain ⟨Y, _, h1, h2⟩ := h.one
 exact (h2 w' S N (h1.kept hk)).1
theorem Twr.wf1 (h : Twr X w p S N q T M) : S.Wf := by obtain ⟨Y, _, h1, _⟩ := h.one; exact h1.wf
theorem Twr.bd1 (h : Twr X w p S N q T M) : S.Bd N := by obtain ⟨Y, _, h1, _⟩ := h.one; exact h1.bd
theorem Twr.bd2 (h : Twr X w p S N q T M) : T.Bd M := by obtain ⟨A, o, A', o', h1, h2, h3, h4, h5, h6⟩ := h; exact h6
theorem Twr.mono {N' M' : Nat} (h : Twr X w p S N q T M) (hn : N ≤ N') (hm : M ≤ M') : Twr X w p S N' q T M' := by
 obtain ⟨A, o, A', o', h1, h2, h3, h4, h5, h6⟩ := h
 exact ⟨A, o, A', o', h1, h2, h3, h4, h5.mono hn, h6.mono hm⟩
theorem Twr.less {Y : Nat → Prop} (h : Twr X w p S N q T M) (hY : ∀ b, Y b → X b) : Twr Y w p S N q T M := by
 obtain ⟨A, o, A', o', h1, h2, h3, h4, h5, h6⟩ := h
 exact ⟨A, o, A', o', h1, h2, h3, fun b hb => h4 b (hY b hb), h5, h6⟩
theorem Twr.free (h : Twr X w p S N q T M) {w' : World} {Y F : Nat → Prop} (hk : Keep F w w') (hF : ∀ b, b < w.heap.size → F b → X b) (hY : ∀ b, Y b → (X b ∨ w.heap.size ≤ b) ∧ b < w'.heap.size) : Twr Y w' p S N q T M := by
 obtain ⟨A, o, A', o', h1, h2, h3, h4, h5, h6⟩ := h
 have n1 : ∀ b, w.heap.size ≤ b → o b = 0 := fun b hb => Classical.byContradiction fun hn => by have := h1.lim hn; omega
 have n2 : ∀ b, w.heap.size ≤ b → o' b = 0 := fun b hb => Classical.byContradiction fun hn => by have := h2.lim b hn; omega
 refine ⟨A, o, A', o', h1.keep hk (fun b hb hf => hb (h4 b (hF b (h1.lim hb) hf)).1), h2.keep hk (fun b hb hf => hb (h4 b (hF b (h2.lim b hb) hf)).2.1), h3, fun b hb => ?_, h5, h6⟩
 obtain ⟨h7, h8⟩ := hY b hb
 rcases h7 with h7 | h7
 ·exact ⟨(h4 b h7).1, (h4 b h7).2.1, h8⟩
 ·exact ⟨n1 b h7, n2 b h7, h8⟩
end
theorem Keep.frozen {F : Nat → Prop} {w w' : World} (h : Keep F w w') {p : Addr} (hp : p.block < w.heap.size) (hn : ¬ F p.block) : w'.frozen? p = w.frozen? p := World.frozen?_of_block (w := w) (h.block p.block hp hn)
def prB (P D : Nat) (bo : Option Nat) (b : Nat) : Prop := b = P ∨ b = D ∨ bo = some b
structure Pq (X : Nat → Prop) (w : World) (P p q D : Nat) (bo : Option Nat) (R : List UInt8) (S : Ds) (N : Nat) (T : Ds) (M : Nat) : Prop where
 tw : Twr (fun b => X b ∨ prB P D bo b) w p S N q T M
 cells : w.heap[P]? = some (.cells #[.pointer (some ⟨p, 0, none⟩), .pointer (some ⟨q, 0, none⟩), .pointer (some ⟨D, 0, none⟩)] 47 (0, 0))
 dk : Dk w D bo R
 dp : ∃ v0, w.cell? ⟨D, 1, none⟩ = some v0
 df : w.frozen? ⟨D, 1, none⟩ = false
 far : ∀ b, X b → ¬ prB P D bo b
 pD : P ≠ D
 pb : bo ≠ some P
section
variable {X : Nat → Prop} {w w' : World} {P p q D : Nat} {bo : Option Nat} {R : List UInt8} {S : Ds} {N : Nat} {T : Ds} {M : Nat}
theorem Pq.step {S' T' : Ds} {N' M' : Nat} {p' q' : Nat} (h : Pq X w P p q D bo R S N T M) (ht : Twr (fun b => X b ∨ prB P D bo b) w' p S' N' q T' M') (hk : Keep (fun b => ¬ (X b ∨ prB P D bo b)) w w') : Pq X w' P p q D bo R S' N' T' M' := by
 have hD : ¬ (fun b => ¬ (X b ∨ prB P D bo b)) D := fun hn => hn (.inr (.inr (.inl rfl)))
 obtain ⟨v0, hv0⟩ := h.dp
 refine ⟨ht, ?_, ⟨hk.cellOf h.dk.cell hD, (hk.frozen (World.block_lt_of_cell? _ _ h.dk.cell) hD).trans h.dk.fr, h.dk.none, fun g e => ⟨(h.dk.row g e).1, ?_⟩, h.dk.small⟩, ⟨v0, hk.cellOf hv0 hD⟩, (hk.frozen (World.block_lt_of_cell? _ _ hv0) hD).trans h.df, h.far, h.pD, h.pb⟩
 ·rw [hk.block P (Array.getElem?_eq_some_iff.1 h.cells).1 (fun hn => hn (.inr (.inl rfl)))]; exact h.cells
 ·rw [hk.block g (Array.getElem?_eq_some_iff.1 (h.dk.row g e).2).1 (fun hn => hn (.inr (.inr (.inr e))))]; exact (h.dk.row g e).2
theorem Pq.stepY {Y : Nat → Prop} {S' T' : Ds} {N' M' : Nat} (h : Pq X w P p q D bo R S N T M) (ht : Twr (fun b => Y b ∨ prB P D bo b) w' p S' N' q T' M') (hk : Keep (fun b => ¬ (X b ∨ prB P D bo b)) w w') (hY : ∀ b, Y b → ¬ prB P D bo b) : Pq Y w' P p q D bo R S' N' T' M' := by
 have hD : ¬ (fun b => ¬ (X b ∨ prB P D bo b)) D := fun hn => hn (.inr (.inr (.inl rfl)))
 obtain ⟨v0, hv0⟩ := h.dp
 refine ⟨ht, ?_, ⟨hk.cellOf h.dk.cell hD, (hk.frozen (World.block_lt_of_cell? _ _ h.dk.cell) hD).trans h.dk.fr, h.dk.none, fun g e => ⟨(h.dk.row g e).1, ?_⟩, h.dk.small⟩, ⟨v0, hk.cellOf hv0 hD⟩, (hk.frozen (World.block_lt_of_cell? _ _ hv0) hD).trans h.df, hY, h.pD, h.pb⟩
 ·rw [hk.block P (Array.getElem?_eq_some_iff.1 h.cells).1 (fun hn => hn (.inr (.inl rfl)))]; exact h.cells
 ·rw [hk.block g (Array.getElem?_eq_some_iff.1 (h.dk.row g e).2).1 (fun hn => hn (.inr (.inr (.inr e))))]; exact (h.dk.row g e).2
theorem Pq.kept (h : Pq X w P p q D bo R S N T M) (hk : Kept [] w w') : Pq X w' P p q D bo R S N T M := h.step (p' := p) (q' := q) (h.tw.kept hk) (Keep.ofNone hk)
theorem Pq.mono {N' M' : Nat} (h : Pq X w P p q D bo R S N T M) (hn : N ≤ N') (hm : M ≤ M') : Pq X w P p q D bo R S N' T M' := ⟨h.tw.mono hn hm, h.cells, h.dk, h.dp, h.df, h.far, h.pD, h.pb⟩
theorem Pq.cell (h : Pq X w P p q D bo R S N T M) (j : Nat) (v : Value) (hv : (#[Value.pointer (some ⟨p, 0, none⟩), .pointer (some ⟨q, 0, none⟩), .pointer (some ⟨D, 0, none⟩)] : Array Value)[j]? = some v) : w.cell? ⟨P, j, none⟩ = some v := by
 rw [cell_of_row w _ j _ _ _ h.cells]; simpa using hv
theorem Pq.lt (h : Pq X w P p q D bo R S N T M) {b : Nat} (hb : X b) : b < w.heap.size := by
 obtain ⟨_, _, _, h1, _⟩ := h.tw.two; exact (h1 b (.inl hb)).2
theorem Pq.more {Y : Nat → Prop} (h : Pq X w P p q D bo R S N T M) (hk : Kept [] w w') (hY : ∀ b, Y b → (X b ∨ w.heap.size ≤ b) ∧ b < w'.heap.size) : Pq Y w' P p q D bo R S N T M := by
 have h' := h.kept hk
 obtain ⟨_, _, _, h1, _⟩ := h.tw.two
 have hlt : ∀ b, prB P D bo b → b < w.heap.size := fun b hb => (h1 b (.inr hb)).2
 refine ⟨h.tw.free (Keep.ofNone (F := fun _ => False) hk) (fun _ _ hf => hf.elim) (fun b hb => ?_), h'.cells, h'.dk, h'.dp, h'.df, fun b hb hp => ?_, h.pD, h.pb⟩
 ·rcases hb with hb | hb
  ·obtain ⟨h7, h8⟩ := hY b hb
   exact ⟨h7.imp .inl id, h8⟩
  ·exact ⟨.inl (.inr hb), Nat.lt_of_lt_of_le (hlt b hb) hk.size⟩
 ·rcases (hY b hb).1 with h7 | h7
  ·exact h.far b h7 hp
  ·have := hlt b hp; omega
theorem Pq.less {Y : Nat → Prop} (h : Pq X w P p q D bo R S N T M) (hY : ∀ b, Y b → X b) : Pq Y w P p q D bo R S N T M :=
 ⟨h.tw.less (fun b hb => hb.imp (hY b) id), h.cells, h.dk, h.dp, h.df, fun b hb => h.far b (hY b hb), h.pD, h.pb⟩
theorem Pq.one (h : Pq X w P p q D bo R S N T M) : ∃ Y, (∀ b, X b ∨ prB P D bo b → Y b) ∧ Ax Y w w p S N ∧ ∀ w' S' N', Ax Y w w' p S' N' → Pq X w' P p q D bo R S' N' T M ∧ Keep (fun b => ¬ (X b ∨ prB P D bo b)) w w' := by
 obtain ⟨Y, hY, h1, h2⟩ := h.tw.one
 exact ⟨Y, hY, h1, fun w' S' N' ha => ⟨h.step (p' := p) (q' := q) (h2 w' S' N' ha).1 (h2 w' S' N' ha).2, (h2 w' S' N' ha).2⟩⟩
theorem Pq.two (h : Pq X w P p q D bo R S N T M) : ∃ A' o', RD w q T A' o' ∧ (∀ b, X b ∨ prB P D bo b → o' b = 0) ∧ ∀ w' T' M', RAft w w' q T' o' → T'.Bd M' → Pq X w' P p q D bo R S N T' M' ∧ Keep (fun b => ¬ (X b ∨ prB P D bo b)) w w' := by
 obtain ⟨A', o', h1, h3, h2⟩ := h.tw.two
 exact ⟨A', o', h1, fun b hb => (h3 b hb).1, fun w' T' M' ha hb => ⟨h.step (p' := p) (q' := q) (h2 w' T' M' ha hb).1 (h2 w' T' M' ha hb).2, (h2 w' T' M' ha hb).2⟩⟩
theorem Pq.lay {g : Nat} {R' : List UInt8} (h : Pq X w P p q D bo R S N T M) (hk : Kept (dkfp D bo) w w') (hd : Dk w' D (some g) R') (hg : bo = some g ∨ w.heap.size ≤ g) (h1 : ∃ v0, w'.cell? ⟨D, 1, none⟩ = some v0) (h2 : w'.frozen? ⟨D, 1, none⟩ = false) : Pq X w' P p q D (some g) R' S N T M := by
 obtain ⟨_, _, _, hx, _⟩ := h.tw.two
 have hlt : ∀ b, X b ∨ prB P D bo b → b < w.heap.size := fun b hb => (hx b hb).2
 have hgl := hd.ltg g rfl
 have hPl := hlt P (.inr (.inl rfl))
 have hgP : g ≠ P := by
  rintro rfl
  rcases hg with e | e
  ·exact h.pb e
  ·omega
 refine ⟨h.tw.free (F := fun b => b ∈ dkfp D bo) (Keep.ofKept hk) (fun b _ hf => ?_) (fun b hb => ?_), ?_, hd, h1, h2, fun b hb hp => ?_, h.pD, fun e => hgP (Option.some.inj e)⟩
 ·simp only [dkfp, List.mem_cons, Option.mem_toList, Option.mem_def] at hf
  rcases hf with e | e
  ·exact .inr (.inr (.inl e))
  ·exact .inr (.inr (.inr e))
 ·rcases hb with hb | hb | hb | hb
  ·exact ⟨.inl (.inl hb), Nat.lt_of_lt_of_le (hlt b (.inl hb)) hk.size⟩
  ·exact ⟨.inl (.inr (.inl hb)), Nat.lt_of_lt_of_le (hlt b (.inr (.inl hb))) hk.size⟩
  ·exact ⟨.inl (.inr (.inr (.inl hb))), Nat.lt_of_lt_of_le (hlt b (.inr (.inr (.inl hb)))) hk.size⟩
  ·obtain rfl := Option.some.inj hb
   exact ⟨hg.imp (fun e => .inr (.inr (.inr e))) id, hgl⟩
 ·rw [hk.block P hPl (by simp only [dkfp, List.mem_cons, Option.mem_toList, Option.mem_def, not_or]; exact ⟨h.pD, h.pb⟩)]; exact h.cells
 ·rcases hp with hp | hp | hp
  ·exact h.far b hb (.inl hp)
  ·exact h.far b hb (.inr (.inl hp))
  ·obtain rfl := Option.some.inj hp
   rcases hg with e | e
   ·exact h.far _ hb (.inr (.inr e))
   ·have := hlt _ (.inl hb); omega
end
end

section
open Go.RowKit Dsk
set_option linter.unusedVariables false
set_option linter.unusedSimpArgs false
section
variable {w : World} {q : Nat} {S : Ds} {A : Nat → Nat} {o : Lab} {nv bv tv sv : Value}
set_option maxHeartbeats 3200000 in
set_option maxRecDepth 100000 in
theorem rremove_ok (h : RDx w q S A o nv bv tv sv) (hwf : S.Wf) {N : Nat} (hB : S.Bd N) (hN : N ≤ 268435456) (n : By) (hn : n.length ≤ 4611686018427387904) :
  Calls Tryz.prog 60 #[.pointer (some ⟨q, 0, none⟩), encStr n] w fun e w' => e = .returned (.int .i64 (S.remove n).1) ∧ RAft w w' q (S.remove n).2 o := by
 have hth := there_ok h hwf.sup (by have := hB.shown hwf; omega) n hn
 by_cases h0 : (S.find n).1 = 0
 ·have hst := rstroke_ok h (by have := hB.strokes; omega) (by have := hB.planned; omega)
  rw [h0] at hth
  have hrem : S.remove n = (S.ans 0, S.tick.addName (.tk n)) := by simp [Ds.remove, h0]
  have hwfE : (S.tick.addName (.tk n)).Wf := by have := hwf.remove n; rw [hrem] at this; exact this
  have HC := hide hrem
  obtain ⟨m, hm⟩ : ∃ m, S.shown.length = m := ⟨_, rfl⟩
  obtain ⟨no, nc, hnv⟩ := h.nvs
  rw [hm] at hnv
  subst hnv
  have hml : m ≤ 268435456 := by have := hB.shown hwf; omega
  have hrl : (Ds.cnt S).row.length ≤ 268435456 := by have := hB.nm; show S.row.length ≤ _; omega
  have HOQ : Hid (o q ≠ 0) := hide (by rw [h.lq]; decide)
  have hlq := h.lq
  have HLQ := hide hlq
  clear h hB h0 hrem hlq
  generalize thereI S n = I at hth
  go_enter Tryz.func60, Tryz.ntmps60
  go_upto_region 6 with (first
   | (go_at_call 82; refine hth.mono ?_; rintro e w' ⟨rfl, hw⟩; obtain rfl := hw.symm; clear hth)
   | (go_at_call 79; refine hst.mono ?_; rintro e w2 ⟨rfl, hR2, hK2⟩; have HKW := hide (hK2.mono (G := o.mine) (fun i e _ => by show o i ≠ 0; rw [show i = q from e, HLQ.out]; decide)); clear hst hK2))
  obtain ⟨w3, hw3⟩ : ∃ w3, w3 = w2.alloc (.cells #[.int .i64 3, .string { data := List.toArray n }, .string { data := #[] }, .pointer none] 138) := ⟨_, rfl⟩
  have hk3 : Kept [] w2 w3 := by rw [hw3]; exact (Kept.refl [] w2).alloc _
  have hb3 : w3.heap[w2.heap.size]? = some (.cells #[.int .i64 3, .string { data := List.toArray n }, .string { data := #[] }, .pointer none] 138 (0, 0)) := by rw [hw3]; exact (MapKept.heap_alloc w2 _).1
  have oX : o w2.heap.size = 0 := Classical.byContradiction fun hn => by have := hR2.lim _ hn; omega
  have hXl : w2.heap.size < w3.heap.size := by rw [hw3]; simp
  rw [← hw3]
  clear hw3
  generalize w2.heap.size = X at hb3 oX hXl ⊢
  have HB3 := hide hb3
  have b0 : w3.cell? ⟨X, 0, none⟩ = some (.int .i64 3) := by rw [cell_of_row w3 _ 0 _ _ _ hb3]; rfl
  have b1 : w3.cell? ⟨X, 1, none⟩ = some (encStr n) := by rw [cell_of_row w3 _ 1 _ _ _ hb3]; rfl
  have b2 : w3.cell? ⟨X, 2, none⟩ = some (encStr []) := by rw [cell_of_row w3 _ 2 _ _ _ hb3]; rfl
  have b3 : w3.cell? ⟨X, 3, none⟩ = some (.pointer none) := by rw [cell_of_row w3 _ 3 _ _ _ hb3]; rfl
  have hR3 := (hR2.kept hk3).kept ((Kept.refl [] w3).drew)
  have hK3 : Keep o.mine w w3 := HKW.out.kept hk3
  have c2 : w3.cell? ⟨q, 2, none⟩ = some (.slice no m nc) := hR3.cell 2 _ rfl
  have ht := turnTk_ok no m nc A S.shown n [] (.bool true) w3.drew hm (by omega) (by have := hR3.now; rw [show (Ds.cnt S).shown.length = m from hm] at this; exact this)
  have HR3 := hide hR3
  have HK3 := hide hK3
  clear hR2 hR3 hk3 hb3 hK3
  refine wp_region_late (fun w' => Kept [] w3 w') (fun i => i == 6 || i == 9) (by kernel_rfl) ?_
  have h0 : Kept [] w3 w3.drew := (Kept.refl [] w3).drew
  generalize World.drew w3 = v0 at h0 HR3 ht ⊢
  refine wpAnyL_free (i := 0) (v := .pointer (some ⟨q, 0, none⟩)) rfl (by kernel_rfl) (by kernel_rfl) (by kernel_rfl) (fun _ _ _ h => h) (Or.inl ⟨by rfl, fun w _ => by go_simp⟩) ?_
  try simp only [z1, z2, z3, z4, z5, z6, z7, z8]
  refine wpAnyL_free (i := 1) (v := .pointer (some ⟨q, 0, none⟩)) rfl (by kernel_rfl) (by kernel_rfl) (by kernel_rfl) (fun _ _ _ h => h) (Or.inl ⟨by rfl, fun w _ => by go_simp⟩) ?_
  try simp only [z1, z2, z3, z4, z5, z6, z7, z8]
  refine wpAnyL_free (i := 2) (v := .pointer (some ⟨q, 0, none⟩)) rfl (by kernel_rfl) (by kernel_rfl) (by kernel_rfl) (fun _ _ _ h => h) (Or.inl ⟨by rfl, fun w _ => by go_simp⟩) ?_
  try simp only [z1, z2, z3, z4, z5, z6, z7, z8]
  refine wpAnyL_free (i := 3) (v := .pointer (some ⟨q, 2, none⟩)) rfl (by kernel_rfl) (by kernel_rfl) (by kernel_rfl) (fun _ _ _ h => h) (Or.inl ⟨by rfl, fun w _ => by go_simp⟩) ?_
  try simp only [z1, z2, z3, z4, z5, z6, z7, z8]
  refine wpAnyL_take (i := 4) (v := .slice no m nc) rfl (by kernel_rfl) (by kernel_rfl) (by kernel_rfl) (by kernel_rfl) (by kernel_rfl) (fun _ _ _ h => h) (Or.inl ⟨by rfl, fun w hSw => by have q0 := Kept.cellOf hSw c2 (by simp); go_simp⟩) h0 ?_
  try simp only [z1, z2, z3, z4, z5, z6, z7, z8]
  refine wpAnyL_take (i := 5) (v := .agg #[.int .i64 3, encStr n, encStr [], .pointer none]) rfl (by kernel_rfl) (by kernel_rfl) (by kernel_rfl) (by kernel_rfl) (by kernel_rfl) (fun _ _ _ h => h) (Or.inl ⟨by rfl, fun w hSw => by have q0 := Kept.cellOf hSw b0 (by simp); have q1 := Kept.cellOf hSw b1 (by simp); have q2 := Kept.cellOf hSw b2 (by simp); have q3 := Kept.cellOf hSw b3 (by simp); go_simp⟩) h0 ?_
  try simp only [z1, z2, z3, z4, z5, z6, z7, z8]
  refine wpAnyL_one (i := 6) (by kernel_rfl) rfl (fun K hK => ?_)
  rw [if_pos (by rfl)]
  go_simp
  refine ht.mono ?_
  rintro e w4 ⟨v4, rfl, hB4⟩
  obtain ⟨vo4, vc4, rfl⟩ := hB4.shape
  have HB4 := hide hB4
  have c4 := (HR3.out.setNow hB4).2.2.1
  have f4 := (HR3.out.setNow hB4).2.2.2
  clear ht hB4 b0 b1 b2 b3 c2
  refine hK.out _ _ (fun _ h => by cases h) ?_
  clear hK K
  try simp only [z1, z2, z3, z4, z5, z6, z7, z8]
  refine wpAnyL_free (i := 7) (v := .pointer (some ⟨q, 0, none⟩)) rfl (by kernel_rfl) (by kernel_rfl) (by kernel_rfl) (fun _ _ _ h => h) (Or.inl ⟨by rfl, fun w _ => by go_simp⟩) ?_
  try simp only [z1, z2, z3, z4, z5, z6, z7, z8]
  refine wpAnyL_free (i := 8) (v := .pointer (some ⟨q, 2, none⟩)) rfl (by kernel_rfl) (by kernel_rfl) (by kernel_rfl) (fun _ _ _ h => h) (Or.inl ⟨by rfl, fun w _ => by go_simp⟩) ?_
  try simp only [z1, z2, z3, z4, z5, z6, z7, z8]
  refine wpAnyL_one (i := 9) (by kernel_rfl) rfl (fun K hK => ?_)
  rw [if_pos (by rfl)]
  go_simp
  refine hK.out _ _ (fun _ h => by cases h) ?_
  clear hK K
  try simp only [z1, z2, z3, z4, z5, z6, z7, z8]
  refine wpAnyL_done (by kernel_rfl) ?_ _
  go_upto_region 7 with (fail)
  obtain ⟨hR5, hK5, _, _⟩ := HR3.out.setNow HB4.out
  have hsz5 : X < v0.heap.size := Nat.lt_of_lt_of_le hXl h0.size
  have b5 := hK5.heapOf ((Keep.ofNone (F := fun _ => False) h0).heapOf HB3.out (fun h => h)) (by rw [oX]; decide)
  have oX5 : Lab.ext o v0 w4 1 X = 0 := by rw [Lab.ext_old hsz5]; exact oX
  clear c4 f4
  generalize w4.setCell _ _ = w5 at hR5 hK5 b5 ⊢
  obtain ⟨o5, ho5⟩ : ∃ o5, o5 = Lab.ext o v0 w4 1 := ⟨_, rfl⟩
  have he5 : ∀ b, b < w3.heap.size → o5 b ≠ 0 → o b ≠ 0 := fun b hb hn => ext_le (Nat.lt_of_lt_of_le hb h0.size) (by rw [← ho5]; exact hn)
  have HL1 : Hid (∀ k, k < v0.heap.size → o5 k = o k) := hide (fun k hk => by rw [ho5]; exact Lab.ext_old hk)
  rw [← ho5] at hR5 oX5
  clear ho5
  obtain ⟨to, tc, rfl⟩ := hR5.tvs
  obtain ⟨nr, hnr⟩ : ∃ nr, (Ds.cnt S).row.length = nr := ⟨_, rfl⟩
  rw [show ({ (Ds.cnt S) with shown := (.tk n : Nc).apply (Ds.cnt S).shown } : Ds).row.length = nr from hnr] at hR5
  have hR5d := hR5.kept ((Kept.refl [] w5).drew)
  obtain ⟨g7, c7, w7, hap, d4, f7, hR7, hK7⟩ := hR5d.addTurn hnr (by have := hrl; omega) (.tk n) [.int .i64 3, encStr n, encStr [], .pointer none] rfl (fun u hu => by simp only [List.mem_cons, List.not_mem_nil, or_false] at hu; rcases hu with rfl | rfl | rfl | rfl <;> rfl) (by simp [Nc.made])
  have d0 := cell_of_row w5 _ 0 _ _ _ b5
  have d1 := cell_of_row w5 _ 1 _ _ _ b5
  have d2 := cell_of_row w5 _ 2 _ _ _ b5
  have d3 := cell_of_row w5 _ 3 _ _ _ b5
  simp only [List.getElem?_toArray, List.getElem?_cons_zero, List.getElem?_cons_succ] at d0 d1 d2 d3
  have t4 : w5.cell? ⟨q, 4, none⟩ = some (.slice to nr tc) := hR5.cell 4 _ rfl
  have hen := fun b x => rend_ok hR7 b x
  have HFIN : Hid (∀ v a1 a2 a3 a4, RDx v q { ({ ({ (Ds.cnt S) with shown := (.tk n : Nc).apply (Ds.cnt S).shown } : Ds) with row := (Ds.cnt S).row ++ [.tk n] } : Ds) with on := (Ds.cnt S).on && !S.goesOff } A (o5.ext w5.drew w7 1) a1 a2 a3 a4 → Keep (· = q) (w7.setCell ⟨q, 4, none⟩ (.slice (some ⟨g7, 0, none⟩) (nr + 1) c7)) v → RAft w v q (S.tick.addName (.tk n)) o) := hide (fun v a1 a2 a3 a4 hv hkv => by
   refine ⟨A, o5.ext w5.drew w7 1, ⟨hwfE, a1, a2, a3, a4, hv⟩, fun b hb hn => ?_, ?_⟩
   ·have hb3 : b < w3.heap.size := Nat.lt_of_lt_of_le hb HK3.out.size
    have hb5 : b < w5.drew.heap.size := Nat.lt_of_lt_of_le (Nat.lt_of_lt_of_le hb3 h0.size) hK5.size
    exact he5 b hb3 (ext_le hb5 hn)
   ·have k1 := (HK3.out.kept h0).trans hK5 (fun i e hi => by show o i ≠ 0; rw [show o i = 1 from e]; decide)
    have k2 := k1.drew.trans hK7 (fun i e hi => by
     have hi3 : i < v0.heap.size := Nat.lt_of_lt_of_le (Nat.lt_of_lt_of_le hi HK3.out.size) h0.size
     show o i ≠ 0
     rw [← HL1.out i hi3, show o5 i = 1 from e]; decide)
    have k3 := k2.trans hkv (fun i e hi => by show o i ≠ 0; rw [show i = q from e]; exact HOQ.out)
    exact k3)
  clear hR5 hR5d hR7 hK7 b5 HB3 HR3 HB4
  refine wp_region_late (fun w' => Kept [] w5 w') (fun i => i == 7 || i == 10) (by kernel_rfl) ?_
  have h5 : Kept [] w5 w5.drew := (Kept.refl [] w5).drew
  generalize World.drew w5 = v5 at h5 hap HFIN hen ⊢
  refine wpAnyL_free (i := 0) (v := .pointer (some ⟨q, 0, none⟩)) rfl (by kernel_rfl) (by kernel_rfl) (by kernel_rfl) (fun _ _ _ h => h) (Or.inl ⟨by rfl, fun w _ => by go_simp⟩) ?_
  try simp only [z1, z2, z3, z4, z5, z6, z7, z8]
  refine wpAnyL_free (i := 1) (v := .pointer (some ⟨q, 0, none⟩)) rfl (by kernel_rfl) (by kernel_rfl) (by kernel_rfl) (fun _ _ _ h => h) (Or.inl ⟨by rfl, fun w _ => by go_simp⟩) ?_
  try simp only [z1, z2, z3, z4, z5, z6, z7, z8]
  refine wpAnyL_free (i := 2) (v := .pointer (some ⟨q, 0, none⟩)) rfl (by kernel_rfl) (by kernel_rfl) (by kernel_rfl) (fun _ _ _ h => h) (Or.inl ⟨by rfl, fun w _ => by go_simp⟩) ?_
  try simp only [z1, z2, z3, z4, z5, z6, z7, z8]
  refine wpAnyL_free (i := 3) (v := .pointer (some ⟨q, 4, none⟩)) rfl (by kernel_rfl) (by kernel_rfl) (by kernel_rfl) (fun _ _ _ h => h) (Or.inl ⟨by rfl, fun w _ => by go_simp⟩) ?_
  try simp only [z1, z2, z3, z4, z5, z6, z7, z8]
  refine wpAnyL_take (i := 4) (v := .slice to nr tc) rfl (by kernel_rfl) (by kernel_rfl) (by kernel_rfl) (by kernel_rfl) (by kernel_rfl) (fun _ _ _ h => h) (Or.inl ⟨by rfl, fun w hSw => by have q0 := Kept.cellOf hSw t4 (by simp); go_simp⟩) h5 ?_
  try simp only [z1, z2, z3, z4, z5, z6, z7, z8]
  refine wpAnyL_take (i := 5) (v := .agg #[.int .i64 3, encStr n, encStr [], .pointer none]) rfl (by kernel_rfl) (by kernel_rfl) (by kernel_rfl) (by kernel_rfl) (by kernel_rfl) (fun _ _ _ h => h) (Or.inl ⟨by rfl, fun w hSw => by have q0 := Kept.cellOf hSw d0 (by simp); have q1 := Kept.cellOf hSw d1 (by simp); have q2 := Kept.cellOf hSw d2 (by simp); have q3 := Kept.cellOf hSw d3 (by simp); go_simp⟩) h5 ?_
  try simp only [z1, z2, z3, z4, z5, z6, z7, z8]
  refine wpAnyL_one (i := 6) (by kernel_rfl) rfl (fun K hK => ?_)
  rw [if_pos (by rfl)]
  go_simp
  refine hK.out _ _ (fun _ _ => h5.alloc _) ?_
  clear hK K
  try simp only [z1, z2, z3, z4, z5, z6, z7, z8]
  refine wpAnyL_one (i := 7) (by kernel_rfl) rfl (fun K hK => ?_)
  rw [if_pos (by rfl)]
  refine wp_append_run (.tmp 39) (.tmp 41) 72 72 rfl (.slice to nr tc) (.slice (some ⟨v5.heap.size, 0, none⟩) 1 1) rfl rfl (.slice (some ⟨g7, 0, none⟩) (nr + 1) c7) w7 hap ?_
  refine hK.out _ _ (fun _ h => by cases h) ?_
  clear hK K
  try simp only [z1, z2, z3, z4, z5, z6, z7, z8]
  refine wpAnyL_free (i := 8) (v := .pointer (some ⟨q, 0, none⟩)) rfl (by kernel_rfl) (by kernel_rfl) (by kernel_rfl) (fun _ _ _ h => h) (Or.inl ⟨by rfl, fun w _ => by go_simp⟩) ?_
  try simp only [z1, z2, z3, z4, z5, z6, z7, z8]
  refine wpAnyL_free (i := 9) (v := .pointer (some ⟨q, 4, none⟩)) rfl (by kernel_rfl) (by kernel_rfl) (by kernel_rfl) (fun _ _ _ h => h) (Or.inl ⟨by rfl, fun w _ => by go_simp⟩) ?_
  try simp only [z1, z2, z3, z4, z5, z6, z7, z8]
  refine wpAnyL_one (i := 10) (by kernel_rfl) rfl (fun K hK => ?_)
  rw [if_pos (by rfl)]
  go_simp
  refine hK.out _ _ (fun _ h => by cases h) ?_
  clear hK K
  try simp only [z1, z2, z3, z4, z5, z6, z7, z8]
  refine wpAnyL_done (by kernel_rfl) ?_ _
  go_wp2_with (first
   | (go_at_call 80; refine (hen _ _).mono ?_; rintro e w8 ⟨rfl, hR8, hK8⟩; have H8 := hide (HFIN.out w8 _ _ _ _ hR8 hK8); clear hR8 hK8 hen))
  go_ret
  exact ⟨by rw [HC.out]; rfl, by rw [HC.out]; exact H8.out⟩
 ·have HC : Hid (S.remove n = ((S.find n).1, S)) := hide (by simp [Ds.remove, h0])
  have HA := hide (RAft.of ⟨hwf, _, _, _, _, h⟩ (Keep.refl _ w))
  generalize (S.find n).1 = E at hth h0 HC
  generalize thereI S n = I at hth
  have e0 : (E == 0) = false := by simpa using h0
  have e1 : (E != 0) = true := by simpa using h0
  clear h hB h0
  go_enter Tryz.func60, Tryz.ntmps60
  go_wp2_with (go_at_call 82; refine hth.mono ?_; rintro e w' ⟨rfl, hw⟩; obtain rfl := hw.symm; clear hth)
  go_ret
  exact ⟨by rw [HC.out]; rfl, by rw [HC.out]; exact HA.out⟩
end
end

section
open Go.RowKit Dsk
set_option linter.unusedVariables false
set_option linter.unusedSimpArgs false
section
variable {w : World} {q : Nat} {S : Ds} {A : Nat → Nat} {o : Lab} {nv bv tv sv : Value}
set_option maxHeartbeats 3200000 in
set_option maxRecDepth 100000 in
theorem rrename_ok (h : RDx w q S A o nv bv tv sv) (hwf : S.Wf) {N : Nat} (hB : S.Bd N) (hN : N ≤ 268435456) (f t : By) (hf : f.length ≤ 4611686018427387904) (ht0 : t.length ≤ 4611686018427387904) :
  Calls Tryz.prog 59 #[.pointer (some ⟨q, 0, none⟩), encStr f, encStr t] w fun e w' => e = .returned (.int .i64 (S.rename f t).1) ∧ RAft w w' q (S.rename f t).2 o := by
 have hoff := roff_ok h
 have hi1 := rIsName_ok f w hf
 have hi2 := rIsName_ok t w ht0
 obtain ⟨m, hm⟩ : ∃ m, S.shown.length = m := ⟨_, rfl⟩
 obtain ⟨no, nc, hnv⟩ := h.nvs
 rw [hm] at hnv
 subst hnv
 have hml : m ≤ 268435456 := by have := hB.shown hwf; omega
 have c2 := h.cell 2 _ rfl
 have hfd := rfind_ok no m nc A S.shown f w hm (by omega) (by have := h.now; rw [hm] at this; exact this)
 have HA := hide (RAft.of ⟨hwf, _, _, _, _, h⟩ (Keep.refl _ w))
 cases hon : S.on with
 | false =>
  have HC : Hid (S.rename f t = (50, S)) := hide (by simp [Ds.rename, hon])
  rw [hon] at hoff
  clear h hB hfd hi1 hi2 hon
  go_enter Tryz.func59, Tryz.ntmps59
  go_wp2_with (go_at_call 37; refine hoff.mono ?_; rintro e w' ⟨rfl, hw⟩; obtain rfl := hw.symm; clear hoff)
  go_ret
  exact ⟨by rw [HC.out]; rfl, by rw [HC.out]; exact HA.out⟩
 | true =>
  rw [hon] at hoff
  cases hnf : isNm f with
  | false =>
   have HC : Hid (S.rename f t = (51, S)) := hide (by cases hnt : isNm t <;> simp [Ds.rename, Ds.find, hon, hnf, hnt])
   rw [hnf] at hi1
   clear h hB hfd hi2 hon hnf
   go_enter Tryz.func59, Tryz.ntmps59
   go_wp2_with (first
    | (go_at_call 37; refine hoff.mono ?_; rintro e w' ⟨rfl, hw⟩; obtain rfl := hw.symm; clear hoff)
    | (go_at_call 18; refine hi1.mono ?_; rintro e w' ⟨rfl, hw⟩; obtain rfl := hw.symm; clear hi1))
   go_ret
   exact ⟨by rw [HC.out]; rfl, by rw [HC.out]; exact HA.out⟩
  | true =>
   rw [hnf] at hi1
   cases hnt : isNm t with
   | false =>
    have HC : Hid (S.rename f t = (51, S)) := hide (by simp [Ds.rename, hon, hnt])
    rw [hnt] at hi2
    clear h hB hfd hon hnf hnt
    go_enter Tryz.func59, Tryz.ntmps59
    go_wp2_with (first
     | (go_at_call 37; refine hoff.mono ?_; rintro e w' ⟨rfl, hw⟩; obtain rfl := hw.symm; clear hoff)
     | (go_at_call 18; have Ha := hi1; refine hi1.mono ?_; rintro e w' ⟨rfl, hw⟩; obtain rfl := hw.symm; clear Ha hi1)
     | (go_at_call 18; refine hi2.mono ?_; rintro e w' ⟨rfl, hw⟩; obtain rfl := hw.symm; clear hi2))
    go_ret
    exact ⟨by rw [HC.out]; rfl, by rw [HC.out]; exact HA.out⟩
   | true =>
    rw [hnt] at hi2
    cases hg : S.shown.get f with
    | none =>
     have HC : Hid (S.rename f t = (53, S)) := hide (by simp [Ds.rename, Ds.find, hon, hnf, hnt, hg])
     rw [fix_get_none hg] at hfd
     clear h hB hon hnf hnt hg hm
     go_enter Tryz.func59, Tryz.ntmps59
     go_wp2_with (first
      | (go_at_call 37; refine hoff.mono ?_; rintro e w' ⟨rfl, hw⟩; obtain rfl := hw.symm; clear hoff)
      | (go_at_call 18; have Ha := hi1; refine hi1.mono ?_; rintro e w' ⟨rfl, hw⟩; obtain rfl := hw.symm; clear Ha hi1)
      | (go_at_call 18; refine hi2.mono ?_; rintro e w' ⟨rfl, hw⟩; obtain rfl := hw.symm; clear hi2)
      | (go_at_call 19; refine hfd.mono ?_; rintro e w' ⟨rfl, hw⟩; obtain rfl := hw.symm; clear hfd))
     go_ret
     exact ⟨by rw [HC.out]; rfl, by rw [HC.out]; exact HA.out⟩
    | some k =>
     obtain ⟨i, hi, hp, hfx⟩ := fix_get_some hwf.sup hg
     rw [hfx] at hfd
     have hst := rstroke_ok h (by have := hB.strokes; omega) (by have := hB.planned; omega)
     have HOQ : Hid (o q ≠ 0) := hide (by rw [h.lq]; decide)
     have hlq := h.lq
     have HLQ := hide hlq
     by_cases hft : f = t
     ·have HC : Hid (S.rename f t = (S.ans 0, S.tick)) := hide (by simp [Ds.rename, Ds.find, hon, hnt, hg, hft]; rw [hft] at hg; simp [hg])
      have hne : (f == t) = true := by simpa using hft
      have HFIN : Hid (∀ v w2 a1 a2 a3 a4, Keep (· = q) w w2 → RDx v q { (Ds.cnt S) with on := (Ds.cnt S).on && !S.goesOff } A o a1 a2 a3 a4 → Keep (· = q) w2 v → RAft w v q S.tick o) := hide (fun v w2 a1 a2 a3 a4 hk2 hv hkv => ⟨A, o, ⟨hwf.tick, a1, a2, a3, a4, hv⟩, fun _ _ h => h, (hk2.trans hkv (fun _ h _ => h)).mono (fun i e _ => by show o i ≠ 0; rw [show i = q from e]; exact HOQ.out)⟩)
      clear h hB hon hnf hnt hg hm hp hfx hft hlq
      go_enter Tryz.func59, Tryz.ntmps59
      go_wp2_with (first
       | (go_at_call 37; refine hoff.mono ?_; rintro e w' ⟨rfl, hw⟩; obtain rfl := hw.symm; clear hoff)
       | (go_at_call 18; have Ha := hi1; refine hi1.mono ?_; rintro e w' ⟨rfl, hw⟩; obtain rfl := hw.symm; clear Ha hi1)
       | (go_at_call 18; refine hi2.mono ?_; rintro e w' ⟨rfl, hw⟩; obtain rfl := hw.symm; clear hi2)
       | (go_at_call 19; refine hfd.mono ?_; rintro e w' ⟨rfl, hw⟩; obtain rfl := hw.symm; clear hfd)
       | (go_at_call 79; refine hst.mono ?_; rintro e w2 ⟨rfl, hR2, hK2⟩; have hen := fun b x => rend_ok hR2 b x; have HK2 := hide hK2; clear hst hR2 hK2)
       | (go_at_call 80; refine (hen _ _).mono ?_; rintro e w8 ⟨rfl, hR8, hK8⟩; have H8 := hide (HFIN.out w8 _ _ _ _ _ HK2.out hR8 hK8); clear hR8 hK8 hen))
      go_ret
      exact ⟨by rw [HC.out]; rfl, by rw [HC.out]; exact H8.out⟩
     ·have hren : S.rename f t = (S.ans 0, S.tick.addName (.gv f t)) := by simp [Ds.rename, Ds.find, hon, hnf, hnt, hg, hft]
      have hwfE : (S.tick.addName (.gv f t)).Wf := by have := hwf.rename f t; rw [hren] at this; exact this
      have HC := hide hren
      have hrl : (Ds.cnt S).row.length ≤ 268435456 := by have := hB.nm; show S.row.length ≤ _; omega
      have hsu : S.shown.Up := hwf.sup
      have hne : (f == t) = false := by simpa using hft
      have hgs := hide hg
      have HFT := hide hft
      clear h hB hren hlq hon hnf hnt hg hp hfx hft
      go_enter Tryz.func59, Tryz.ntmps59
      go_upto_region 10 with (first
       | (go_at_call 37; refine hoff.mono ?_; rintro e w' ⟨rfl, hw⟩; obtain rfl := hw.symm; clear hoff)
       | (go_at_call 18; have Ha := hi1; refine hi1.mono ?_; rintro e w' ⟨rfl, hw⟩; obtain rfl := hw.symm; clear Ha hi1)
       | (go_at_call 18; refine hi2.mono ?_; rintro e w' ⟨rfl, hw⟩; obtain rfl := hw.symm; clear hi2)
       | (go_at_call 19; refine hfd.mono ?_; rintro e w' ⟨rfl, hw⟩; obtain rfl := hw.symm; clear hfd)
       | (go_at_call 79; refine hst.mono ?_; rintro e w2 ⟨rfl, hR2, hK2⟩; have HKW := hide (hK2.mono (G := o.mine) (fun i e _ => by show o i ≠ 0; rw [show i = q from e, HLQ.out]; decide)); clear hst hK2 c2))
      obtain ⟨w3, hw3⟩ : ∃ w3, w3 = w2.alloc (.cells #[.int .i64 2, .string { data := List.toArray f }, .string { data := List.toArray t }, .pointer none] 138) := ⟨_, rfl⟩
      have hk3 : Kept [] w2 w3 := by rw [hw3]; exact (Kept.refl [] w2).alloc _
      have hb3 : w3.heap[w2.heap.size]? = some (.cells #[.int .i64 2, .string { data := List.toArray f }, .string { data := List.toArray t }, .pointer none] 138 (0, 0)) := by rw [hw3]; exact (MapKept.heap_alloc w2 _).1
      have oX : o w2.heap.size = 0 := Classical.byContradiction fun hn => by have := hR2.lim _ hn; omega
      have hXl : w2.heap.size < w3.heap.size := by rw [hw3]; simp
      rw [← hw3]
      clear hw3
      generalize w2.heap.size = X at hb3 oX hXl ⊢
      have HB3 := hide hb3
      have b0 : w3.cell? ⟨X, 0, none⟩ = some (.int .i64 2) := by rw [cell_of_row w3 _ 0 _ _ _ hb3]; rfl
      have b1 : w3.cell? ⟨X, 1, none⟩ = some (encStr f) := by rw [cell_of_row w3 _ 1 _ _ _ hb3]; rfl
      have b2 : w3.cell? ⟨X, 2, none⟩ = some (encStr t) := by rw [cell_of_row w3 _ 2 _ _ _ hb3]; rfl
      have b3 : w3.cell? ⟨X, 3, none⟩ = some (.pointer none) := by rw [cell_of_row w3 _ 3 _ _ _ hb3]; rfl
      have hR3 := (hR2.kept hk3).kept ((Kept.refl [] w3).drew)
      have hK3 : Keep o.mine w w3 := HKW.out.kept hk3
      have c2 : w3.cell? ⟨q, 2, none⟩ = some (.slice no m nc) := hR3.cell 2 _ rfl
      have ht := turnGv_ok no m nc A S.shown f t k w3.drew hm (by omega) hsu hgs.out HFT.out (by have := hR3.now; rw [show (Ds.cnt S).shown.length = m from hm] at this; exact this)
      have HR3 := hide hR3
      have HK3 := hide hK3
      clear hR2 hR3 hk3 hb3 hK3
      refine wp_region_late (fun w' => Kept [] w3 w') (fun i => i == 6 || i == 9) (by kernel_rfl) ?_
      have h0 : Kept [] w3 w3.drew := (Kept.refl [] w3).drew
      generalize World.drew w3 = v0 at h0 HR3 ht ⊢
      refine wpAnyL_free (i := 0) (v := .pointer (some ⟨q, 0, none⟩)) rfl (by kernel_rfl) (by kernel_rfl) (by kernel_rfl) (fun _ _ _ h => h) (Or.inl ⟨by rfl, fun w _ => by go_simp⟩) ?_
      try simp only [z1, z2, z3, z4, z5, z6, z7, z8]
      refine wpAnyL_free (i := 1) (v := .pointer (some ⟨q, 0, none⟩)) rfl (by kernel_rfl) (by kernel_rfl) (by kernel_rfl) (fun _ _ _ h => h) (Or.inl ⟨by rfl, fun w _ => by go_simp⟩) ?_
      try simp only [z1, z2, z3, z4, z5, z6, z7, z8]
      refine wpAnyL_free (i := 2) (v := .pointer (some ⟨q, 0, none⟩)) rfl (by kernel_rfl) (by kernel_rfl) (by kernel_rfl) (fun _ _ _ h => h) (Or.inl ⟨by rfl, fun w _ => by go_simp⟩) ?_
      try simp only [z1, z2, z3, z4, z5, z6, z7, z8]
      refine wpAnyL_free (i := 3) (v := .pointer (some ⟨q, 2, none⟩)) rfl (by kernel_rfl) (by kernel_rfl) (by kernel_rfl) (fun _ _ _ h => h) (Or.inl ⟨by rfl, fun w _ => by go_simp⟩) ?_
      try simp only [z1, z2, z3, z4, z5, z6, z7, z8]
      refine wpAnyL_take (i := 4) (v := .slice no m nc) rfl (by kernel_rfl) (by kernel_rfl) (by kernel_rfl) (by kernel_rfl) (by kernel_rfl) (fun _ _ _ h => h) (Or.inl ⟨by rfl, fun w hSw => by have q0 := Kept.cellOf hSw c2 (by simp); go_simp⟩) h0 ?_
      try simp only [z1, z2, z3, z4, z5, z6, z7, z8]
      refine wpAnyL_take (i := 5) (v := .agg #[.int .i64 2, encStr f, encStr t, .pointer none]) rfl (by kernel_rfl) (by kernel_rfl) (by kernel_rfl) (by kernel_rfl) (by kernel_rfl) (fun _ _ _ h => h) (Or.inl ⟨by rfl, fun w hSw => by have q0 := Kept.cellOf hSw b0 (by simp); have q1 := Kept.cellOf hSw b1 (by simp); have q2 := Kept.cellOf hSw b2 (by simp); have q3 := Kept.cellOf hSw b3 (by simp); go_simp⟩) h0 ?_
      try simp only [z1, z2, z3, z4, z5, z6, z7, z8]
      refine wpAnyL_one (i := 6) (by kernel_rfl) rfl (fun K hK => ?_)
      rw [if_pos (by rfl)]
      go_simp
      refine ht.mono ?_
      rintro e w4 ⟨v4, rfl, hB4⟩
      obtain ⟨vo4, vc4, rfl⟩ := hB4.shape
      have HB4 := hide hB4
      have c4 := (HR3.out.setNow hB4).2.2.1
      have f4 := (HR3.out.setNow hB4).2.2.2
      clear ht hB4 b0 b1 b2 b3 c2
      refine hK.out _ _ (fun _ h => by cases h) ?_
      clear hK K
      try simp only [z1, z2, z3, z4, z5, z6, z7, z8]
      refine wpAnyL_free (i := 7) (v := .pointer (some ⟨q, 0, none⟩)) rfl (by kernel_rfl) (by kernel_rfl) (by kernel_rfl) (fun _ _ _ h => h) (Or.inl ⟨by rfl, fun w _ => by go_simp⟩) ?_
      try simp only [z1, z2, z3, z4, z5, z6, z7, z8]
      refine wpAnyL_free (i := 8) (v := .pointer (some ⟨q, 2, none⟩)) rfl (by kernel_rfl) (by kernel_rfl) (by kernel_rfl) (fun _ _ _ h => h) (Or.inl ⟨by rfl, fun w _ => by go_simp⟩) ?_
      try simp only [z1, z2, z3, z4, z5, z6, z7, z8]
      refine wpAnyL_one (i := 9) (by kernel_rfl) rfl (fun K hK => ?_)
      rw [if_pos (by rfl)]
      go_simp
      refine hK.out _ _ (fun _ h => by cases h) ?_
      clear hK K
      try simp only [z1, z2, z3, z4, z5, z6, z7, z8]
      refine wpAnyL_done (by kernel_rfl) ?_ _
      go_upto_region 11 with (fail)
      obtain ⟨hR5, hK5, _, _⟩ := HR3.out.setNow HB4.out
      have hsz5 : X < v0.heap.size := Nat.lt_of_lt_of_le hXl h0.size
      have b5 := hK5.heapOf ((Keep.ofNone (F := fun _ => False) h0).heapOf HB3.out (fun h => h)) (by rw [oX]; decide)
      have oX5 : Lab.ext o v0 w4 1 X = 0 := by rw [Lab.ext_old hsz5]; exact oX
      clear c4 f4
      generalize w4.setCell _ _ = w5 at hR5 hK5 b5 ⊢
      obtain ⟨o5, ho5⟩ : ∃ o5, o5 = Lab.ext o v0 w4 1 := ⟨_, rfl⟩
      have he5 : ∀ b, b < w3.heap.size → o5 b ≠ 0 → o b ≠ 0 := fun b hb hn => ext_le (Nat.lt_of_lt_of_le hb h0.size) (by rw [← ho5]; exact hn)
      have HL1 : Hid (∀ k, k < v0.heap.size → o5 k = o k) := hide (fun k hk => by rw [ho5]; exact Lab.ext_old hk)
      rw [← ho5] at hR5 oX5
      clear ho5
      obtain ⟨to, tc, rfl⟩ := hR5.tvs
      obtain ⟨nr, hnr⟩ : ∃ nr, (Ds.cnt S).row.length = nr := ⟨_, rfl⟩
      rw [show ({ (Ds.cnt S) with shown := (.gv f t : Nc).apply (Ds.cnt S).shown } : Ds).row.length = nr from hnr] at hR5
      have hR5d := hR5.kept ((Kept.refl [] w5).drew)
      obtain ⟨g7, c7, w7, hap, d4, f7, hR7, hK7⟩ := hR5d.addTurn hnr (by have := hrl; omega) (.gv f t) [.int .i64 2, encStr f, encStr t, .pointer none] rfl (fun u hu => by simp only [List.mem_cons, List.not_mem_nil, or_false] at hu; rcases hu with rfl | rfl | rfl | rfl <;> rfl) (by simp [Nc.made])
      have d0 := cell_of_row w5 _ 0 _ _ _ b5
      have d1 := cell_of_row w5 _ 1 _ _ _ b5
      have d2 := cell_of_row w5 _ 2 _ _ _ b5
      have d3 := cell_of_row w5 _ 3 _ _ _ b5
      simp only [List.getElem?_toArray, List.getElem?_cons_zero, List.getElem?_cons_succ] at d0 d1 d2 d3
      have t4 : w5.cell? ⟨q, 4, none⟩ = some (.slice to nr tc) := hR5.cell 4 _ rfl
      have hen := fun b x => rend_ok hR7 b x
      have HFIN : Hid (∀ v a1 a2 a3 a4, RDx v q { ({ ({ (Ds.cnt S) with shown := (.gv f t : Nc).apply (Ds.cnt S).shown } : Ds) with row := (Ds.cnt S).row ++ [.gv f t] } : Ds) with on := (Ds.cnt S).on && !S.goesOff } A (o5.ext w5.drew w7 1) a1 a2 a3 a4 → Keep (· = q) (w7.setCell ⟨q, 4, none⟩ (.slice (some ⟨g7, 0, none⟩) (nr + 1) c7)) v → RAft w v q (S.tick.addName (.gv f t)) o) := hide (fun v a1 a2 a3 a4 hv hkv => by
       refine ⟨A, o5.ext w5.drew w7 1, ⟨hwfE, a1, a2, a3, a4, hv⟩, fun b hb hn => ?_, ?_⟩
       ·have hb3 : b < w3.heap.size := Nat.lt_of_lt_of_le hb HK3.out.size
        have hb5 : b < w5.drew.heap.size := Nat.lt_of_lt_of_le (Nat.lt_of_lt_of_le hb3 h0.size) hK5.size
        exact he5 b hb3 (ext_le hb5 hn)
       ·have k1 := (HK3.out.kept h0).trans hK5 (fun i e hi => by show o i ≠ 0; rw [show o i = 1 from e]; decide)
        have k2 := k1.drew.trans hK7 (fun i e hi => by
         have hi3 : i < v0.heap.size := Nat.lt_of_lt_of_le (Nat.lt_of_lt_of_le hi HK3.out.size) h0.size
         show o i ≠ 0
         rw [← HL1.out i hi3, show o5 i = 1 from e]; decide)
        have k3 := k2.trans hkv (fun i e hi => by show o i ≠ 0; rw [show i = q from e]; exact HOQ.out)
        exact k3)
      clear hR5 hR5d hR7 hK7 b5 HB3 HR3 HB4
      refine wp_region_late (fun w' => Kept [] w5 w') (fun i => i == 7 || i == 10) (by kernel_rfl) ?_
      have h5 : Kept [] w5 w5.drew := (Kept.refl [] w5).drew
      generalize World.drew w5 = v5 at h5 hap HFIN hen ⊢
      refine wpAnyL_free (i := 0) (v := .pointer (some ⟨q, 0, none⟩)) rfl (by kernel_rfl) (by kernel_rfl) (by kernel_rfl) (fun _ _ _ h => h) (Or.inl ⟨by rfl, fun w _ => by go_simp⟩) ?_
      try simp only [z1, z2, z3, z4, z5, z6, z7, z8]
      refine wpAnyL_free (i := 1) (v := .pointer (some ⟨q, 0, none⟩)) rfl (by kernel_rfl) (by kernel_rfl) (by kernel_rfl) (fun _ _ _ h => h) (Or.inl ⟨by rfl, fun w _ => by go_simp⟩) ?_
      try simp only [z1, z2, z3, z4, z5, z6, z7, z8]
      refine wpAnyL_free (i := 2) (v := .pointer (some ⟨q, 0, none⟩)) rfl (by kernel_rfl) (by kernel_rfl) (by kernel_rfl) (fun _ _ _ h => h) (Or.inl ⟨by rfl, fun w _ => by go_simp⟩) ?_
      try simp only [z1, z2, z3, z4, z5, z6, z7, z8]
      refine wpAnyL_free (i := 3) (v := .pointer (some ⟨q, 4, none⟩)) rfl (by kernel_rfl) (by kernel_rfl) (by kernel_rfl) (fun _ _ _ h => h) (Or.inl ⟨by rfl, fun w _ => by go_simp⟩) ?_
      try simp only [z1, z2, z3, z4, z5, z6, z7, z8]
      refine wpAnyL_take (i := 4) (v := .slice to nr tc) rfl (by kernel_rfl) (by kernel_rfl) (by kernel_rfl) (by kernel_rfl) (by kernel_rfl) (fun _ _ _ h => h) (Or.inl ⟨by rfl, fun w hSw => by have q0 := Kept.cellOf hSw t4 (by simp); go_simp⟩) h5 ?_
      try simp only [z1, z2, z3, z4, z5, z6, z7, z8]
      refine wpAnyL_take (i := 5) (v := .agg #[.int .i64 2, encStr f, encStr t, .pointer none]) rfl (by kernel_rfl) (by kernel_rfl) (by kernel_rfl) (by kernel_rfl) (by kernel_rfl) (fun _ _ _ h => h) (Or.inl ⟨by rfl, fun w hSw => by have q0 := Kept.cellOf hSw d0 (by simp); have q1 := Kept.cellOf hSw d1 (by simp); have q2 := Kept.cellOf hSw d2 (by simp); have q3 := Kept.cellOf hSw d3 (by simp); go_simp⟩) h5 ?_
      try simp only [z1, z2, z3, z4, z5, z6, z7, z8]
      refine wpAnyL_one (i := 6) (by kernel_rfl) rfl (fun K hK => ?_)
      rw [if_pos (by rfl)]
      go_simp
      refine hK.out _ _ (fun _ _ => h5.alloc _) ?_
      clear hK K
      try simp only [z1, z2, z3, z4, z5, z6, z7, z8]
      refine wpAnyL_one (i := 7) (by kernel_rfl) rfl (fun K hK => ?_)
      rw [if_pos (by rfl)]
      refine wp_append_run (.tmp 51) (.tmp 53) 72 72 rfl (.slice to nr tc) (.slice (some ⟨v5.heap.size, 0, none⟩) 1 1) rfl rfl (.slice (some ⟨g7, 0, none⟩) (nr + 1) c7) w7 hap ?_
      refine hK.out _ _ (fun _ h => by cases h) ?_
      clear hK K
      try simp only [z1, z2, z3, z4, z5, z6, z7, z8]
      refine wpAnyL_free (i := 8) (v := .pointer (some ⟨q, 0, none⟩)) rfl (by kernel_rfl) (by kernel_rfl) (by kernel_rfl) (fun _ _ _ h => h) (Or.inl ⟨by rfl, fun w _ => by go_simp⟩) ?_
      try simp only [z1, z2, z3, z4, z5, z6, z7, z8]
      refine wpAnyL_free (i := 9) (v := .pointer (some ⟨q, 4, none⟩)) rfl (by kernel_rfl) (by kernel_rfl) (by kernel_rfl) (fun _ _ _ h => h) (Or.inl ⟨by rfl, fun w _ => by go_simp⟩) ?_
      try simp only [z1, z2, z3, z4, z5, z6, z7, z8]
      refine wpAnyL_one (i := 10) (by kernel_rfl) rfl (fun K hK => ?_)
      rw [if_pos (by rfl)]
      go_simp
      refine hK.out _ _ (fun _ h => by cases h) ?_
      clear hK K
      try simp only [z1, z2, z3, z4, z5, z6, z7, z8]
      refine wpAnyL_done (by kernel_rfl) ?_ _
      go_wp2_with (first
       | (go_at_call 80; refine (hen _ _).mono ?_; rintro e w8 ⟨rfl, hR8, hK8⟩; have H8 := hide (HFIN.out w8 _ _ _ _ hR8 hK8); clear hR8 hK8 hen))
      go_ret
      exact ⟨by rw [HC.out]; rfl, by rw [HC.out]; exact H8.out⟩
end
end

end Go.Proofs.YteckiednnaianaaGreat
