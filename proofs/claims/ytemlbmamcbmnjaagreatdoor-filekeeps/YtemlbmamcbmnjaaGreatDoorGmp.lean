/-
  A disk in memory: labels, things, names, the whole.
-/
import Derived.Test.YtemlbmamcbmnjaaGreatDoorProg
import Derived.Test.YtemlbmamcbmnjaaGreatDoorMem
import Derived.Test.YtemlbmamcbmnjaaGreatDoorGap
import Derived.Maps.AppendAt
import Derived.Laws.OwnMore
namespace Go.Proofs.YtemlbmamcbmnjaaGreatDoor
open Go.RowKit Dsk
set_option linter.unusedVariables false
set_option linter.unusedSimpArgs false

/-- w' is w but for new blocks and blocks of F. -/
structure Keep (F : Nat → Prop) (w w' : World) : Prop where
  os : w'.os = w.os
  tape : w'.tape = w.tape
  output : w'.output = w.output
  size : w.heap.size ≤ w'.heap.size
  block : ∀ k, k < w.heap.size → ¬ F k → w'.heap[k]? = w.heap[k]?

namespace Keep
variable {F G : Nat → Prop} {a b c w w' : World}
theorem refl (F : Nat → Prop) (w : World) : Keep F w w := ⟨rfl, rfl, rfl, Nat.le_refl _, fun _ _ _ => rfl⟩
theorem trans (h : Keep F a b) (k : Keep G b c) (hG : ∀ i, G i → i < a.heap.size → F i) : Keep F a c :=
  ⟨k.os.trans h.os, k.tape.trans h.tape, k.output.trans h.output, Nat.le_trans h.size k.size,
    fun i hi hn => (k.block i (Nat.lt_of_lt_of_le hi h.size) (fun hm => hn (hG i hm hi))).trans (h.block i hi hn)⟩
theorem mono (h : Keep F a b) (hG : ∀ i, F i → i < a.heap.size → G i) : Keep G a b :=
  ⟨h.os, h.tape, h.output, h.size, fun i hi hn => h.block i hi (fun hm => hn (hG i hm hi))⟩
theorem drew (h : Keep F a w) : Keep F a w.drew := ⟨h.os, h.tape, h.output, h.size, h.block⟩
theorem drewN (h : Keep F a w) (n : Nat) : Keep F a (w.drewN n) := ⟨h.os, h.tape, h.output, h.size, h.block⟩
theorem ofKept {l : List Nat} (h : Kept l w w') : Keep (· ∈ l) w w' := ⟨h.os, h.tape, h.output, h.size, h.block⟩
theorem ofNone (h : Kept [] w w') : Keep F w w' := ⟨h.os, h.tape, h.output, h.size, fun k hk _ => h.block k hk (by simp)⟩
theorem ofBelow (h : Below w.heap.size w w') : Keep F w w' := ⟨h.os, h.tape, h.output, h.size, fun k hk _ => h.block k hk⟩
theorem kept (h : Keep F a b) (k : Kept [] b c) : Keep F a c := h.trans (G := fun _ => False) ⟨k.os, k.tape, k.output, k.size, fun i hi _ => k.block i hi (by simp)⟩ (fun _ h _ => h.elim)
theorem alloc (h : Keep F a w) (o : Obj) : Keep F a (w.alloc o) := h.kept ((Kept.refl [] w).alloc o)
theorem setCell (h : Keep F a w) {p : Addr} (hp : p.block < a.heap.size → F p.block) (u : Value) : Keep F a (w.setCell p u) :=
  h.trans (G := (· = p.block)) ⟨rfl, rfl, rfl, by simp [World.setCell], fun k _ hn => Below.heap_setCell _ _ _ _ (by simpa using hn)⟩ (fun i e hi => by subst e; exact hp hi)
theorem grown {row : Option Nat} (h : Keep F a w) (hg : w.grownBy w' row) (hr : ∀ k, row = some k → k < a.heap.size → F k) : Keep F a w' :=
  h.trans (G := fun k => row = some k) ⟨hg.os, hg.tape, hg.output, hg.size, fun i hi hn => hg.block i hi (fun e => hn e.symm)⟩ (fun i e hi => hr i e hi)
theorem toBelow {B : Nat} (h : Keep F w w') (hB : B ≤ w.heap.size) (hF : ∀ i, F i → B ≤ i) : Below B w w' :=
  ⟨h.os, h.tape, h.output, h.size, fun k hk => h.block k (by omega) (fun hm => by have := hF k hm; omega)⟩
theorem cell (h : Keep F w w') {p : Addr} (hp : p.block < w.heap.size) (hn : ¬ F p.block) : w'.cell? p = w.cell? p := World.cell?_of_block (w := w) (h.block p.block hp hn)
theorem cellOf (h : Keep F w w') {p : Addr} {v : Value} (hc : w.cell? p = some v) (hn : ¬ F p.block) : w'.cell? p = some v := by
  rw [h.cell (World.block_lt_of_cell? _ _ hc) hn]; exact hc
theorem heapOf (h : Keep F w w') {b : Nat} {o : Obj} (hc : w.heap[b]? = some o) (hn : ¬ F b) : w'.heap[b]? = some o :=
  (h.block b (Array.getElem?_eq_some_iff.1 hc).1 hn).trans hc
end Keep

theorem Sl.keep {F : Nat → Prop} {w w' : World} {ao : Option Addr} {xs : List UInt8} (h : Sl w ao xs) (hk : Keep F w w') (hn : xs ≠ [] → ∀ a, ao = some a → ¬ F a.block) : Sl w' ao xs := by
  intro i hi
  obtain ⟨b, off, rfl, hc⟩ := h i hi
  exact ⟨b, off, rfl, hk.cellOf hc (hn (by rintro rfl; simp at hi) ⟨b, off, none⟩ rfl)⟩
theorem own_keeps {F : Nat → Prop} {w w' : World} {B : Nat} {e : TypeId} {s : Nat} {v : Value} {n : Nat} {xs : List Value} (h : w.ownsRow B e s v n xs) (hk : Keep F w w') (hn : ∀ g, v.ownBlock = some g → ¬ F g) : w'.ownsRow B e s v n xs := by
  refine ⟨h.1, ?_⟩
  rcases h.2 with h1 | ⟨g, cap, cur, rfl, h2, h3, h4⟩
  · exact .inl h1
  · exact .inr ⟨g, cap, cur, rfl, h2, hk.heapOf h3 (hn g rfl), h4⟩
theorem map_keeps {F : Nat → Prop} {H : Type} {w w' : World} {P : Program} {k : TypeId} {R : Value → Option (DataW H × List MemPlace)} {b n : Nat} {D : DataW H} (h : w.ownsMap P k R b n D) (hk : Keep F w w') (hn : ¬ F b) : w'.ownsMap P k R b n D := by
  obtain ⟨es, clock, hb, r⟩ := h
  exact ⟨es, clock, hk.heapOf hb hn, r⟩

/-- Whose block it is: 0: nobody's. -/
abbrev Lab := Nat → Nat
/-- New blocks of a call get a label. -/
def Lab.ext (o : Lab) (w w' : World) (l : Nat) : Lab := fun b => if b < w.heap.size then o b else if b < w'.heap.size then l else 0
theorem Lab.ext_old {o : Lab} {w w' : World} {l b : Nat} (h : b < w.heap.size) : o.ext w w' l b = o b := by simp [Lab.ext, h]
theorem Lab.ext_new {o : Lab} {w w' : World} {l b : Nat} (h : w.heap.size ≤ b) (h' : b < w'.heap.size) : o.ext w w' l b = l := by simp [Lab.ext, h', show ¬ b < w.heap.size by omega]

def encCh : Ch → Value
  | .wr a d => .iface 205 (.agg #[.int .i64 a, encStr d])
  | .cut a => .iface 159 (.agg #[.int .i64 a])
def ptr (b : Nat) : Value := .pointer (some ⟨b, 0, none⟩)
def encNc (A : Nat → Nat) : Nc → Value
  | .mk n k => .iface 141 (.agg #[encStr n, .pointer (some ⟨A k, 0, none⟩)])
  | .gv f t => .iface 164 (.agg #[encStr f, encStr t])
  | .tk n => .iface 166 (.agg #[encStr n])
def encSp (s : Dsk.Span) : List Value := [encStr s.name, .int .i64 s.at_, .int .i64 s.n]

/-- Nothing of a row is frozen. -/
def NoFr (fr : Nat × Nat) (n : Nat) : Prop := ∀ j, j < n → ¬ (fr.1 ≤ j ∧ j < fr.2)
theorem noFr_zero (n : Nat) : NoFr (0, 0) n := fun j _ h => by simp at h
theorem noFr_mark (n : Nat) : NoFr (n, n + 1) n := fun j hj h => by simp at h; omega
/-- A row of bytes of its own. -/
def OwnB (w : World) (v : Value) (n : Nat) (xs : By) : Prop :=
  xs.length = n ∧ ((v = .slice none 0 0 ∧ n = 0) ∨ ∃ g cap cur fr, v = .slice (some ⟨g, 0, none⟩) n cap ∧ w.heap[g]? = some (.cells cur 5 fr) ∧ NoFr fr cur.size ∧ n ≤ cap ∧ cap ≤ maxLen ∧ cur.size = cap ∧ cur.toList.take n = bys xs)
theorem OwnB.of {w : World} {v : Value} {n : Nat} {xs : By} {B : Nat} (h : w.ownsRow B 5 1 v n (bys xs)) : OwnB w v n xs := by
  refine ⟨by have := h.1; rw [bys_length] at this; omega, ?_⟩
  rcases h.2 with h1 | ⟨g, cap, cur, e, _, hg, hn, hc, hs, ht⟩
  · exact .inl h1
  · exact .inr ⟨g, cap, cur, (0, 0), e, hg, noFr_zero _, hn, hc, by simpa using hs, by simpa using ht⟩
theorem OwnB.keep {F : Nat → Prop} {w w' : World} {v : Value} {n : Nat} {xs : By} (h : OwnB w v n xs) (hk : Keep F w w') (hn : ∀ g, v.ownBlock = some g → ¬ F g) : OwnB w' v n xs := by
  refine ⟨h.1, ?_⟩
  rcases h.2 with h1 | ⟨g, cap, cur, fr, rfl, h3, h4⟩
  · exact .inl h1
  · exact .inr ⟨g, cap, cur, fr, rfl, hk.heapOf h3 (hn g rfl), h4⟩
theorem OwnB.kept {w w' : World} {v : Value} {n : Nat} {xs : By} (h : OwnB w v n xs) (hk : Kept [] w w') : OwnB w' v n xs := h.keep (Keep.ofNone (F := fun _ => False) hk) (fun _ _ h => h)
theorem OwnB.lt {w : World} {v : Value} {n : Nat} {xs : By} (h : OwnB w v n xs) {g : Nat} (hg : v.ownBlock = some g) : g < w.heap.size := by
  rcases h.2 with ⟨rfl, _⟩ | ⟨g', cap, cur, fr, rfl, h3, _⟩
  · simp [Value.ownBlock] at hg
  · simp only [Value.ownBlock, Option.some.injEq] at hg
    subst hg
    exact (Array.getElem?_eq_some_iff.1 h3).1
theorem OwnB.nil (w : World) : OwnB w (.slice none 0 0) 0 [] := ⟨rfl, .inl ⟨rfl, rfl⟩⟩
theorem OwnB.shape {w : World} {v : Value} {n : Nat} {xs : By} (h : OwnB w v n xs) : ∃ bo bc, v = .slice bo n bc ∧ n ≤ bc ∧ bc ≤ maxLen ∧ (bo = none → n = 0 ∧ bc = 0) ∧ (∀ a, bo = some a → ∃ g, a = ⟨g, 0, none⟩) := by
  rcases h.2 with ⟨rfl, rfl⟩ | ⟨g, cap, cur, fr, rfl, h3, _, hn, hc, _⟩
  · exact ⟨none, 0, rfl, Nat.le_refl _, Nat.zero_le _, fun _ => ⟨rfl, rfl⟩, by simp⟩
  · exact ⟨_, _, rfl, hn, hc, by simp, fun a e => by injection e with e; exact ⟨g, e.symm⟩⟩
theorem OwnB.sl {w : World} {bo : Option Addr} {n bc : Nat} {xs : By} (h : OwnB w (.slice bo n bc) n xs) : Sl w bo xs := by
  intro i hi
  rcases h.2 with ⟨e, e2⟩ | ⟨g, cap, cur, fr, e, h3, _, hn, hc, hs, ht⟩
  · have := h.1; omega
  · injection e with e1 _ _
    refine ⟨g, 0, e1, ?_⟩
    rw [Nat.zero_add, cell_of_row w g i cur _ fr h3]
    have h1 := bys_at hi
    rw [← ht, List.getElem?_take] at h1
    split at h1
    · simpa using h1
    · cases h1
theorem OwnB.ne {w : World} {v : Value} {n q : Nat} {xs : By} {T : TypeId} {cs : Array Value} {fr : Nat × Nat} (h : OwnB w v n xs) (hq : w.heap[q]? = some (.cells cs T fr)) (hT : T ≠ 5) : v.ownBlock ≠ some q := by
  intro hv
  rcases h.2 with ⟨rfl, _⟩ | ⟨g, cap, cur, fr', rfl, hg, _⟩
  · simp [Value.ownBlock] at hv
  · simp only [Value.ownBlock, Option.some.injEq] at hv
    subst hv
    rw [hg] at hq
    injection hq with hq
    injection hq with _ h2 _
    exact hT h2.symm
theorem OwnB.two {w : World} {B s : Nat} {e : TypeId} {v v' : Value} {n n' : Nat} {xs : List Value} {ys : By} (h : w.ownsRow B e s v n xs) (h' : OwnB w v' n' ys) (he : e ≠ 5) (k : Nat) (hk : v.ownBlock = some k) : v'.ownBlock ≠ some k := by
  rcases h.2 with ⟨rfl, _⟩ | ⟨g, cap, cur, rfl, _, hg, _⟩
  · simp [Value.ownBlock] at hk
  simp only [Value.ownBlock, Option.some.injEq] at hk
  subst hk
  exact h'.ne hg he

/-- A thing in memory. -/
structure ThAt (w : World) (o : Lab) (l b : Nat) (rv sv : Value) (t : Th) : Prop where
  cells : w.heap[b]? = some (.cells #[encStr t.safe, rv, sv] 108 (0, 0))
  row : w.ownsRow 0 183 1 rv t.row.length (t.row.map encCh)
  shown : OwnB w sv t.shown.length t.shown
  lb : o b = l
  lr : ∀ g, rv.ownBlock = some g → o g = l
  ls : ∀ g, sv.ownBlock = some g → o g = l
def Tg (w : World) (o : Lab) (l b : Nat) (t : Th) : Prop := ∃ rv sv, ThAt w o l b rv sv t

theorem ThAt.keep {F : Nat → Prop} {w w' : World} {o : Lab} {l b : Nat} {rv sv : Value} {t : Th} (h : ThAt w o l b rv sv t) (hk : Keep F w w') (hF : ∀ g, o g = l → ¬ F g) : ThAt w' o l b rv sv t :=
  ⟨hk.heapOf h.cells (hF b h.lb), own_keeps h.row hk (fun g hg => hF g (h.lr g hg)), h.shown.keep hk (fun g hg => hF g (h.ls g hg)), h.lb, h.lr, h.ls⟩
theorem ThAt.lt {w : World} {o : Lab} {l b : Nat} {rv sv : Value} {t : Th} (h : ThAt w o l b rv sv t) : b < w.heap.size := (Array.getElem?_eq_some_iff.1 h.cells).1
theorem ThAt.relab {w : World} {o o' : Lab} {l b : Nat} {rv sv : Value} {t : Th} (h : ThAt w o l b rv sv t) (ho : ∀ g, g < w.heap.size → o' g = o g) : ThAt w o' l b rv sv t :=
  ⟨h.cells, h.row, h.shown, (ho b h.lt).trans h.lb, fun g hg => (ho g (h.row.lt g hg).2).trans (h.lr g hg), fun g hg => (ho g (h.shown.lt hg)).trans (h.ls g hg)⟩

/-- Names in a map. -/
def Mp (w : World) (b : Nat) (A : Nat → Nat) (l : Nm) : Prop := w.ownsMap Tryz.prog 9 ptrElem b l.length (nmD A l)
theorem Mp.of {w : World} {b n : Nat} {A : Nat → Nat} {l : Nm} (h : w.ownsMap Tryz.prog 9 ptrElem b n (nmD A l)) : Mp w b A l := by
  obtain ⟨es, clock, hb, F, hs, hD⟩ := h
  refine ⟨es, clock, hb, F, ?_, hD⟩
  have h1 := congrArg Maps.size hD
  rw [nmD_size, Maps.size_eq, length_sorted, List.length_map] at h1
  have h2 : es.toList.length = es.size := Array.length_toList
  omega
theorem Mp.keep {F : Nat → Prop} {w w' : World} {b : Nat} {A : Nat → Nat} {l : Nm} (h : Mp w b A l) (hk : Keep F w w') (hn : ¬ F b) : Mp w' b A l := map_keeps h hk hn
theorem Mp.congr {w : World} {b : Nat} {A A' : Nat → Nat} {l : Nm} (h : Mp w b A l) (hA : ∀ k ∈ l.ids, A' k = A k) : Mp w b A' l := by
  have : nmD A' l = nmD A l := by
    unfold nmD
    congr 1
    refine List.map_congr_left (fun p hp => ?_)
    unfold nmE
    rw [hA p.2 (List.mem_map.2 ⟨p, hp, rfl⟩)]
  unfold Mp
  rw [this]
  exact h

/-- A disk in memory. -/
structure PDx (w : World) (p : Nat) (S : Ds) (A : Nat → Nat) (o : Lab) (ms mh : Nat) (rv sv : Value) : Prop where
  wf : S.Wf
  cells : w.heap[p]? = some (.cells #[.int .i64 S.room, .bool S.on, .map (some ms), rv, .map (some mh), .int .i64 S.strokes, .int .i64 S.off, .int .i64 S.from_, .int .i64 S.to, .int .i64 S.planned, sv] 98 (0, 0))
  ne : ms ≠ mh
  safe : Mp w ms A S.safe
  shown : Mp w mh A S.shown
  row : w.ownsRow 0 180 1 rv S.row.length (S.row.map (encNc A))
  reads : w.ownsRow 0 199 3 sv S.reads.length (S.reads.flatMap encSp)
  th : ∀ k, k < S.nx → Tg w o (k + 2) (A k) (S.th k)
  lp : o p = 1
  lm : o ms = 1
  lh : o mh = 1
  lr : ∀ g, rv.ownBlock = some g → o g = 1
  ls : ∀ g, sv.ownBlock = some g → o g = 1
  lim : ∀ b, o b ≠ 0 → b < w.heap.size
  pl : (Lit.int .i64 S.off).wf = true ∧ (Lit.int .i64 S.from_).wf = true ∧ (Lit.int .i64 S.to).wf = true
def PD (w : World) (p : Nat) (S : Ds) (A : Nat → Nat) (o : Lab) : Prop := ∃ ms mh rv sv, PDx w p S A o ms mh rv sv

theorem PDx.keep {F : Nat → Prop} {w w' : World} {p : Nat} {S : Ds} {A : Nat → Nat} {o : Lab} {ms mh : Nat} {rv sv : Value} (h : PDx w p S A o ms mh rv sv) (hk : Keep F w w') (hF : ∀ b, o b ≠ 0 → ¬ F b) : PDx w' p S A o ms mh rv sv :=
  ⟨h.wf, hk.heapOf h.cells (hF p (by rw [h.lp]; decide)), h.ne, h.safe.keep hk (hF ms (by rw [h.lm]; decide)), h.shown.keep hk (hF mh (by rw [h.lh]; decide)),
    own_keeps h.row hk (fun g hg => hF g (by rw [h.lr g hg]; decide)), own_keeps h.reads hk (fun g hg => hF g (by rw [h.ls g hg]; decide)),
    fun k hk' => by obtain ⟨a, b, ht⟩ := h.th k hk'; exact ⟨a, b, ht.keep hk (fun g hg => hF g (by rw [hg]; omega))⟩,
    h.lp, h.lm, h.lh, h.lr, h.ls, fun b hb => Nat.lt_of_lt_of_le (h.lim b hb) hk.size, h.pl⟩
theorem PD.keep {F : Nat → Prop} {w w' : World} {p : Nat} {S : Ds} {A : Nat → Nat} {o : Lab} (h : PD w p S A o) (hk : Keep F w w') (hF : ∀ b, o b ≠ 0 → ¬ F b) : PD w' p S A o := by
  obtain ⟨ms, mh, rv, sv, h⟩ := h
  exact ⟨ms, mh, rv, sv, h.keep hk hF⟩

/-- The blocks of a disk. -/
def Lab.mine (o : Lab) : Nat → Prop := fun b => o b ≠ 0
/-- What a call leaves of the labels: new blocks alone come in. -/
def Lab.Ext (o o' : Lab) (w : World) : Prop := ∀ b, b < w.heap.size → o' b ≠ 0 → o b ≠ 0
end Go.Proofs.YtemlbmamcbmnjaaGreatDoor
