import Derived.Test.YtodihkdmneihiaaGreatDoorProg
import Derived.Test.YtodihkdmneihiaaGreatDoorMemp
import Derived.Test.YtodihkdmneihiaaGreatDoorGcp
import Derived.Maps.AppendAt
import Derived.Laws.OwnMore
import Derived.WalkKit
import Derived.Deep.RegionHeld3
import Derived.Deep.QuietTactic
import Derived.BigQuiet
import Derived.StillTailTactics
import Derived.Deep.Cut
import Derived.WalkArith
import Derived.ProofKit
namespace Go.Proofs.YtodihkdmneihiaaGreatDoor
section
open Go.RowKit Dsk
set_option linter.unusedVariables false
set_option linter.unusedSimpArgs false
structure Keep (F : Nat → Prop) (w w' : World) : Prop where
 os : w'.os = w.os
 tape : w'.tape = w.tape
 output : w'.output = w.output
 size : w.heap.size ≤ w'.heap.size
 block : ∀ k, k < w.heap.size → ¬ F k → w'.heap[k]? = w.heap[k]?
namespace Keep
variable {F G : Nat → Prop} {a b c w w' : World}
theorem refl (F : Nat → Prop) (w : World) : Keep F w w := ⟨rfl, rfl, rfl, Nat.le_refl _, fun _ _ _ => rfl⟩
theorem trans (h : Keep F a b) (k : Keep G b c) (hG : ∀ i, G i → i < a.heap.size → F i) : Keep F a c :=
 ⟨k.os.trans h.os, k.tape.trans h.tape, k.output.trans h.output, Nat.le_trans h.size k.size,
  fun i hi hn => (k.block i (Nat.lt_of_lt_of_le hi h.size) (fun hm => hn (hG i hm hi))).trans (h.block i hi hn)⟩
theorem mono (h : Keep F a b) (hG : ∀ i, F i → i < a.heap.size → G i) : Keep G a b :=
 ⟨h.os, h.tape, h.output, h.size, fun i hi hn => h.block i hi (fun hm => hn (hG i hm hi))⟩
theorem drew (h : Keep F a w) : Keep F a w.drew := ⟨h.os, h.tape, h.output, h.size, h.block⟩
theorem drewN (h : Keep F a w) (n : Nat) : Keep F a (w.drewN n) := ⟨h.os, h.tape, h.output, h.size, h.block⟩
theorem ofNone (h : Kept [] w w') : Keep F w w' := ⟨h.os, h.tape, h.output, h.size, fun k hk _ => h.block k hk (by simp)⟩
theorem kept (h : Keep F a b) (k : Kept [] b c) : Keep F a c := h.trans (G := fun _ => False) ⟨k.os, k.tape, k.output, k.size, fun i hi _ => k.block i hi (by simp)⟩ (fun _ h _ => h.elim)
theorem alloc (h : Keep F a w) (o : Obj) : Keep F a (w.alloc o) := h.kept ((Kept.refl [] w).alloc o)
theorem setCell (h : Keep F a w) {p : Addr} (hp : p.block < a.heap.size → F p.block) (u : Value) : Keep F a (w.setCell p u) :=
 h.trans (G := (· = p.block)) ⟨rfl, rfl, rfl, by simp [World.setCell], fun k _ hn => Below.heap_setCell _ _ _ _ (by simpa using hn)⟩ (fun i e hi => by subst e; exact hp hi)
theorem grown {row : Option Nat} (h : Keep F a w) (hg : w.grownBy w' row) (hr : ∀ k, row = some k → k < a.heap.size → F k) : Keep F a w' :=
 h.trans (G := fun k => row = some k) ⟨hg.os, hg.tape, hg.output, hg.size, fun i hi hn => hg.block i hi (fun e => hn e.symm)⟩ (fun i e hi => hr i e hi)
theorem cell (h : Keep F w w') {p : Addr} (hp : p.block < w.heap.size) (hn : ¬ F p.block) : w'.cell? p = w.cell? p := World.cell?_of_block (w := w) (h.block p.block hp hn)
theorem cellOf (h : Keep F w w') {p : Addr} {v : Value} (hc : w.cell? p = some v) (hn : ¬ F p.block) : w'.cell? p = some v := by
 rw [h.cell (World.block_lt_of_cell? _ _ hc) hn]; exact hc
theorem heapOf (h : Keep F w w') {b : Nat} {o : Obj} (hc : w.heap[b]? = some o) (hn : ¬ F b) : w'.heap[b]? = some o :=
 (h.block b (Array.getElem?_eq_some_iff.1 hc).1 hn).trans hc
end Keep
theorem Sl.keep {F : Nat → Prop} {w w' : World} {ao : Option Addr} {xs : List UInt8} (h : Sl w ao xs) (hk : Keep F w w') (hn : xs ≠ [] → ∀ a, ao = some a → ¬ F a.block) : Sl w' ao xs := by
 intro i hi
 obtain ⟨b, off, rfl, hc⟩ := h i hi
 exact ⟨b, off, rfl, hk.cellOf hc (hn (by rintro rfl; simp at hi) ⟨b, off, none⟩ rfl)⟩
theorem own_keeps {F : Nat → Prop} {w w' : World} {B : Nat} {e : TypeId} {s : Nat} {v : Value} {n : Nat} {xs : List Value} (h : w.ownsRow B e s v n xs) (hk : Keep F w w') (hn : ∀ g, v.ownBlock = some g → ¬ F g) : w'.ownsRow B e s v n xs := by
 refine ⟨h.1, ?_⟩
 rcases h.2 with h1 | ⟨g, cap, cur, rfl, h2, h3, h4⟩
 ·exact .inl h1
 ·exact .inr ⟨g, cap, cur, rfl, h2, hk.heapOf h3 (hn g rfl), h4⟩
theorem map_keeps {F : Nat → Prop} {H : Type} {w w' : World} {P : Program} {k : TypeId} {R : Value → Option (DataW H × List MemPlace)} {b n : Nat} {D : DataW H} (h : w.ownsMap P k R b n D) (hk : Keep F w w') (hn : ¬ F b) : w'.ownsMap P k R b n D := by
 obtain ⟨es, clock, hb, r⟩ := h
 exact ⟨es, clock, hk.heapOf hb hn, r⟩
abbrev Lab := Nat → Nat
def Lab.ext (o : Lab) (w w' : World) (l : Nat) : Lab := fun b => if b < w.heap.size then o b else if b < w'.heap.size then l else 0
theorem Lab.ext_old {o : Lab} {w w' : World} {l b : Nat} (h : b < w.heap.size) : o.ext w w' l b = o b := by simp [Lab.ext, h]
theorem Lab.ext_new {o : Lab} {w w' : World} {l b : Nat} (h : w.heap.size ≤ b) (h' : b < w'.heap.size) : o.ext w w' l b = l := by simp [Lab.ext, h', show ¬ b < w.heap.size by omega]
def encCh : Ch → Value
 | .wr a d => .iface 187 (.agg #[.int .i64 a, encStr d])
 | .cut a => .iface 142 (.agg #[.int .i64 a])
def ptr (b : Nat) : Value := .pointer (some ⟨b, 0, none⟩)
def encNc (A : Nat → Nat) : Nc → Value
 | .mk n k => .iface 124 (.agg #[encStr n, .pointer (some ⟨A k, 0, none⟩)])
 | .gv f t => .iface 147 (.agg #[encStr f, encStr t])
 | .tk n => .iface 149 (.agg #[encStr n])
def encSp (s : Dsk.Span) : List Value := [encStr s.name, .int .i64 s.at_, .int .i64 s.n]
def NoFr (fr : Nat × Nat) (n : Nat) : Prop := ∀ j, j < n → ¬ (fr.1 ≤ j ∧ j < fr.2)
theorem noFr_zero (n : Nat) : NoFr (0, 0) n := fun j _ h => by simp at h
theorem noFr_mark (n : Nat) : NoFr (n, n + 1) n := fun j hj h => by simp at h; omega
def OwnB (w : World) (v : Value) (n : Nat) (xs : By) : Prop :=
 xs.length = n ∧ ((v = .slice none 0 0 ∧ n = 0) ∨ ∃ g cap cur fr, v = .slice (some ⟨g, 0, none⟩) n cap ∧ w.heap[g]? = some (.cells cur 5 fr) ∧ NoFr fr cur.size ∧ n ≤ cap ∧ cap ≤ maxLen ∧ cur.size = cap ∧ cur.toList.take n = bys xs)
theorem OwnB.of {w : World} {v : Value} {n : Nat} {xs : By} {B : Nat} (h : w.ownsRow B 5 1 v n (bys xs)) : OwnB w v n xs := by
 refine ⟨by have := h.1; rw [bys_length] at this; omega, ?_⟩
 rcases h.2 with h1 | ⟨g, cap, cur, e, _, hg, hn, hc, hs, ht⟩
 ·exact .inl h1
 ·exact .inr ⟨g, cap, cur, (0, 0), e, hg, noFr_zero _, hn, hc, by simpa using hs, by simpa using ht⟩
theorem OwnB.keep {F : Nat → Prop} {w w' : World} {v : Value} {n : Nat} {xs : By} (h : OwnB w v n xs) (hk : Keep F w w') (hn : ∀ g, v.ownBlock = some g → ¬ F g) : OwnB w' v n xs := by
 refine ⟨h.1, ?_⟩
 rcases h.2 with h1 | ⟨g, cap, cur, fr, rfl, h3, h4⟩
 ·exact .inl h1
 ·exact .inr ⟨g, cap, cur, fr, rfl, hk.heapOf h3 (hn g rfl), h4⟩
theorem OwnB.kept {w w' : World} {v : Value} {n : Nat} {xs : By} (h : OwnB w v n xs) (hk : Kept [] w w') : OwnB w' v n xs := h.keep (Keep.ofNone (F := fun _ => False) hk) (fun _ _ h => h)
theorem OwnB.lt {w : World} {v : Value} {n : Nat} {xs : By} (h : OwnB w v n xs) {g : Nat} (hg : v.ownBlock = some g) : g < w.heap.size := by
 rcases h.2 with ⟨rfl, _⟩ | ⟨g', cap, cur, fr, rfl, h3, _⟩
 ·simp [Value.ownBlock] at hg
 ·simp only [Value.ownBlock, Option.some.injEq] at hg
  subst hg
  exact (Array.getElem?_eq_some_iff.1 h3).1
theorem OwnB.nil (w : World) : OwnB w (.slice none 0 0) 0 [] := ⟨rfl, .inl ⟨rfl, rfl⟩⟩
theorem OwnB.shape {w : World} {v : Value} {n : Nat} {xs : By} (h : OwnB w v n xs) : ∃ bo bc, v = .slice bo n bc ∧ n ≤ bc ∧ bc ≤ maxLen ∧ (bo = none → n = 0 ∧ bc = 0) ∧ (∀ a, bo = some a → ∃ g, a = ⟨g, 0, none⟩) := by
 rcases h.2 with ⟨rfl, rfl⟩ | ⟨g, cap, cur, fr, rfl, h3, _, hn, hc, _⟩
 ·exact ⟨none, 0, rfl, Nat.le_refl _, Nat.zero_le _, fun _ => ⟨rfl, rfl⟩, by simp⟩
 ·exact ⟨_, _, rfl, hn, hc, by simp, fun a e => by injection e with e; exact ⟨g, e.symm⟩⟩
theorem OwnB.sl {w : World} {bo : Option Addr} {n bc : Nat} {xs : By} (h : OwnB w (.slice bo n bc) n xs) : Sl w bo xs := by
 intro i hi
 rcases h.2 with ⟨e, e2⟩ | ⟨g, cap, cur, fr, e, h3, _, hn, hc, hs, ht⟩
 ·have := h.1; omega
 ·injection e with e1 _ _
  refine ⟨g, 0, e1, ?_⟩
  rw [Nat.zero_add, cell_of_row w g i cur _ fr h3]
  have h1 := bys_at hi
  rw [← ht, List.getElem?_take] at h1
  split at h1
  ·simpa using h1
  ·cases h1
theorem OwnB.ne {w : World} {v : Value} {n q : Nat} {xs : By} {T : TypeId} {cs : Array Value} {fr : Nat × Nat} (h : OwnB w v n xs) (hq : w.heap[q]? = some (.cells cs T fr)) (hT : T ≠ 5) : v.ownBlock ≠ some q := by
 intro hv
 rcases h.2 with ⟨rfl, _⟩ | ⟨g, cap, cur, fr', rfl, hg, _⟩
 ·simp [Value.ownBlock] at hv
 ·simp only [Value.ownBlock, Option.some.injEq] at hv
  subst hv
  rw [hg] at hq
  injection hq with hq
  injection hq with _ h2 _
  exact hT h2.symm
theorem OwnB.two {w : World} {B s : Nat} {e : TypeId} {v v' : Value} {n n' : Nat} {xs : List Value} {ys : By} (h : w.ownsRow B e s v n xs) (h' : OwnB w v' n' ys) (he : e ≠ 5) (k : Nat) (hk : v.ownBlock = some k) : v'.ownBlock ≠ some k := by
 rcases h.2 with ⟨rfl, _⟩ | ⟨g, cap, cur, rfl, _, hg, _⟩
 ·simp [Value.ownBlock] at hk
 simp only [Value.ownBlock, Option.some.injEq] at hk
 subst hk
 exact h'.ne hg he
structure ThAt (w : World) (o : Lab) (l b : Nat) (rv sv : Value) (t : Th) : Prop where
 cells : w.heap[b]? = some (.cells #[encStr t.safe, rv, sv] 122 (0, 0))
 row : w.ownsRow 0 189 1 rv t.row.length (t.row.map encCh)
 shown : OwnB w sv t.shown.length t.shown
 lb : o b = l
 lr : ∀ g, rv.ownBlock = some g → o g = l
 ls : ∀ g, sv.ownBlock = some g → o g = l
def Tg (w : World) (o : Lab) (l b : Nat) (t : Th) : Prop := ∃ rv sv, ThAt w o l b rv sv t
theorem ThAt.keep {F : Nat → Prop} {w w' : World} {o : Lab} {l b : Nat} {rv sv : Value} {t : Th} (h : ThAt w o l b rv sv t) (hk : Keep F w w') (hF : ∀ g, o g = l → ¬ F g) : ThAt w' o l b rv sv t :=
 ⟨hk.heapOf h.cells (hF b h.lb), own_keeps h.row hk (fun g hg => hF g (h.lr g hg)), h.shown.keep hk (fun g hg => hF g (h.ls g hg)), h.lb, h.lr, h.ls⟩
theorem ThAt.lt {w : World} {o : Lab} {l b : Nat} {rv sv : Value} {t : Th} (h : ThAt w o l b rv sv t) : b < w.heap.size := (Array.getElem?_eq_some_iff.1 h.cells).1
theorem ThAt.relab {w : World} {o o' : Lab} {l b : Nat} {rv sv : Value} {t : Th} (h : ThAt w o l b rv sv t) (ho : ∀ g, g < w.heap.size → o' g = o g) : ThAt w o' l b rv sv t :=
 ⟨h.cells, h.row, h.shown, (ho b h.lt).trans h.lb, fun g hg => (ho g (h.row.lt g hg).2).trans (h.lr g hg), fun g hg => (ho g (h.shown.lt hg)).trans (h.ls g hg)⟩
def Mp (w : World) (b : Nat) (A : Nat → Nat) (l : Nm) : Prop := w.ownsMap Tryz.prog 9 ptrElem b l.length (nmD A l)
theorem Mp.of {w : World} {b n : Nat} {A : Nat → Nat} {l : Nm} (h : w.ownsMap Tryz.prog 9 ptrElem b n (nmD A l)) : Mp w b A l := by
 obtain ⟨es, clock, hb, F, hs, hD⟩ := h
 refine ⟨es, clock, hb, F, ?_, hD⟩
 have h1 := congrArg Maps.size hD
 rw [nmD_size, Maps.size_eq, length_sorted, List.length_map] at h1
 have h2 : es.toList.length = es.size := Array.length_toList
 omega
theorem Mp.keep {F : Nat → Prop} {w w' : World} {b : Nat} {A : Nat → Nat} {l : Nm} (h : Mp w b A l) (hk : Keep F w w') (hn : ¬ F b) : Mp w' b A l := map_keeps h hk hn
theorem Mp.congr {w : World} {b : Nat} {A A' : Nat → Nat} {l : Nm} (h : Mp w b A l) (hA : ∀ k ∈ l.ids, A' k = A k) : Mp w b A' l := by
 have : nmD A' l = nmD A l := by
  unfold nmD
  congr 1
  refine List.map_congr_left (fun p hp => ?_)
  unfold nmE
  rw [hA p.2 (List.mem_map.2 ⟨p, hp, rfl⟩)]
 unfold Mp
 rw [this]
 exact h
structure PDx (w : World) (p : Nat) (S : Ds) (A : Nat → Nat) (o : Lab) (ms mh : Nat) (rv sv : Value) : Prop where
 wf : S.Wf
 cells : w.heap[p]? = some (.cells #[.int .i64 S.room, .bool S.on, .map (some ms), rv, .map (some mh), .int .i64 S.strokes, .int .i64 S.off, .int .i64 S.from_, .int .i64 S.to, .int .i64 S.planned, sv] 97 (0, 0))
 ne : ms ≠ mh
 safe : Mp w ms A S.safe
 shown : Mp w mh A S.shown
 row : w.ownsRow 0 182 1 rv S.row.length (S.row.map (encNc A))
 reads : w.ownsRow 0 164 3 sv S.reads.length (S.reads.flatMap encSp)
 th : ∀ k, k < S.nx → Tg w o (k + 2) (A k) (S.th k)
 lp : o p = 1
 lm : o ms = 1
 lh : o mh = 1
 lr : ∀ g, rv.ownBlock = some g → o g = 1
 ls : ∀ g, sv.ownBlock = some g → o g = 1
 lim : ∀ b, o b ≠ 0 → b < w.heap.size
 pl : (Lit.int .i64 S.off).wf = true ∧ (Lit.int .i64 S.from_).wf = true ∧ (Lit.int .i64 S.to).wf = true
def PD (w : World) (p : Nat) (S : Ds) (A : Nat → Nat) (o : Lab) : Prop := ∃ ms mh rv sv, PDx w p S A o ms mh rv sv
theorem PDx.keep {F : Nat → Prop} {w w' : World} {p : Nat} {S : Ds} {A : Nat → Nat} {o : Lab} {ms mh : Nat} {rv sv : Value} (h : PDx w p S A o ms mh rv sv) (hk : Keep F w w') (hF : ∀ b, o b ≠ 0 → ¬ F b) : PDx w' p S A o ms mh rv sv :=
 ⟨h.wf, hk.heapOf h.cells (hF p (by rw [h.lp]; decide)), h.ne, h.safe.keep hk (hF ms (by rw [h.lm]; decide)), h.shown.keep hk (hF mh (by rw [h.lh]; decide)),
  own_keeps h.row hk (fun g hg => hF g (by rw [h.lr g hg]; decide)), own_keeps h.reads hk (fun g hg => hF g (by rw [h.ls g hg]; decide)),
  fun k hk' => by obtain ⟨a, b, ht⟩ := h.th k hk'; exact ⟨a, b, ht.keep hk (fun g hg => hF g (by rw [hg]; omega))⟩,
  h.lp, h.lm, h.lh, h.lr, h.ls, fun b hb => Nat.lt_of_lt_of_le (h.lim b hb) hk.size, h.pl⟩
theorem PD.keep {F : Nat → Prop} {w w' : World} {p : Nat} {S : Ds} {A : Nat → Nat} {o : Lab} (h : PD w p S A o) (hk : Keep F w w') (hF : ∀ b, o b ≠ 0 → ¬ F b) : PD w' p S A o := by
 obtain ⟨ms, mh, rv, sv, h⟩ := h
 exact ⟨ms, mh, rv, sv, h.keep hk hF⟩
def Lab.mine (o : Lab) : Nat → Prop := fun b => o b ≠ 0
def Lab.Ext (o o' : Lab) (w : World) : Prop := ∀ b, b < w.heap.size → o' b ≠ 0 → o b ≠ 0
end

section
open Go.RowKit
set_option linter.unusedVariables false
theorem hide {p : Prop} (h : p) : Hid p := h
section
variable {P : Program} {ops : Array Oper} {Q : Exit → Act → World → Prop} {md : Region.Mode} {S : World → Prop} {late : Nat → Bool}
def wpAnyL (P : Program) (md : Region.Mode) (ops : Array Oper) (Q : Exit → Act → World → Prop) (S : World → Prop) (late : Nat → Bool) : Nat → Array Bool → Act → World → Prop
 | 0, listed, a, w => Region.ready md ops listed = [] ∧ Q .normal a w
 | fuel + 1, listed, a, w => (Region.ready md ops listed = [] → Q .normal a w) ∧
  ∀ i ∈ Region.ready md ops listed, wpOp P ops Q i (fun a' w' => (S w → late i = false → S w') ∧ wpAnyL P md ops Q S late fuel (listed.setIfInBounds i true) a' w') a w
theorem wpAnyL_any : ∀ (fuel : Nat) (listed : Array Bool) (a : Act) (w : World), wpAnyL P md ops Q S late fuel listed a w → wpAny P md ops Q fuel listed a w
 | 0, _, _, _, h => h
 | fuel + 1, _, _, _, h => ⟨h.1, fun i hi => wpOp_mono (fun a' w' k => wpAnyL_any fuel _ a' w' k.2) (h.2 i hi)⟩
def downB (md : Region.Mode) (ops : Array Oper) (listed : Array Bool) : Bool :=
 (List.range ops.size).all fun k => !(listed.getD k false) || match ops[k]? with
  | some o => o.after.all fun e => !(Region.binds md e) || listed.getD e.on false
  | none => true
def waits (md : Region.Mode) (ops : Array Oper) (i : Nat) : Nat → Nat → Bool
 | 0, _ => false
 | n + 1, z => match ops[z]? with
  | some o => o.after.any fun e => Region.binds md e && (e.on == i || waits md ops i n e.on)
  | none => false
def lateWait (md : Region.Mode) (ops : Array Oper) (late : Nat → Bool) (i : Nat) : Bool :=
 (List.range ops.size).all fun z => !(late z) || waits md ops i ops.size z
def Down (md : Region.Mode) (ops : Array Oper) (listed : Array Bool) : Prop :=
 ∀ k o, ops[k]? = some o → listed.getD k false = true → ∀ e ∈ o.after, Region.binds md e = true → listed.getD e.on false = true
theorem downB_spec {listed : Array Bool} (h : downB md ops listed = true) : Down md ops listed := by
 intro k o ho hk e he hb
 have h1 := List.all_eq_true.1 h k (List.mem_range.2 (Array.getElem?_eq_some_iff.1 ho).1)
 simp only [hk, ho, Bool.not_true, Bool.false_or] at h1
 have h2 := Array.all_eq_true_iff_forall_mem.1 h1 e he
 simpa [hb] using h2
theorem Down.set {listed : Array Bool} (h : Down md ops listed) {j : Nat} (hj : j ∈ Region.ready md ops listed) : Down md ops (listed.setIfInBounds j true) := by
 intro k o ho hk e he hb
 apply getD_set_true
 by_cases hjk : j = k
 ·subst hjk
  obtain ⟨_, o', ho', hall⟩ := mem_ready.1 hj
  rw [ho] at ho'
  cases ho'
  exact hall e he hb
 ·rw [getD_set_ne false hjk] at hk
  exact h k o ho hk e he hb
theorem waits_listed {listed : Array Bool} (hd : Down md ops listed) {i : Nat} : ∀ (n z : Nat) (o : Oper), ops[z]? = some o → waits md ops i n z = true → (∀ e ∈ o.after, Region.binds md e = true → listed.getD e.on false = true) → listed.getD i false = true
 | 0, z, o, ho, h, _ => by simp [waits] at h
 | n + 1, z, o, ho, h, hall => by
  simp only [waits, ho] at h
  obtain ⟨e, he, hb⟩ := Array.any_eq_true'.1 h
  simp only [Bool.and_eq_true, Bool.or_eq_true, beq_iff_eq] at hb
  have hl := hall e he hb.1
  rcases hb.2 with rfl | hw
  ·exact hl
  ·cases ho' : ops[e.on]? with
   | none => cases n <;> simp [waits, ho'] at hw
   | some o' => exact waits_listed hd n e.on o' ho' hw (hd e.on o' ho' hl)
theorem late_not_ready {listed : Array Bool} (hd : Down md ops listed) {i : Nat} (hi : listed.getD i true = false) (hw : lateWait md ops late i = true) {j : Nat} (hj : j ∈ Region.ready md ops listed) : late j = false := by
 obtain ⟨_, o, ho, hall⟩ := mem_ready.1 hj
 have h1 := List.all_eq_true.1 hw j (List.mem_range.2 (Array.getElem?_eq_some_iff.1 ho).1)
 cases hl : late j with
 | false => rfl
 | true =>
  rw [hl] at h1
  simp only [Bool.not_true, Bool.false_or] at h1
  have h2 := waits_listed hd _ j o ho h1 hall
  rcases Nat.lt_or_ge i listed.size with h' | h'
  ·simp [h'] at hi h2; rw [hi] at h2; cases h2
  ·simp [Array.getElem?_eq_none h'] at h2
theorem takeL {i : Nat} {oi : Oper} {v : Value} (hi : ops[i]? = some oi) (hsel : Region.noSelect ops = true) (hw : lateWait md ops late i = true)
  (hQ : ∀ c a w, Q (.panic c) (a.put oi.dst v) w → Q (.panic c) a w) :
  ∀ (fuel : Nat) (listed : Array Bool) (a : Act) (w : World), Down md ops listed →
   (∀ j oj, ops[j]? = some oj → j ≠ i → listed.getD j true = false → (∀ e ∈ oj.after, Region.binds md e = true → e.on ≠ i) → oi.apart ops oj = true) →
   i ∈ Region.ready md ops listed → YieldsIf P ops S oi v a → S w →
   wpAnyL P md ops Q S late fuel (listed.setIfInBounds i true) (a.put oi.dst v) w → wpAnyL P md ops Q S late (fuel + 1) listed a w
 | fuel, listed, a, w, hd, hfree, hr, hy, hS, H => by
  refine ⟨fun h => (by rw [h] at hr; cases hr), fun j hj => ?_⟩
  have hiun := (mem_ready.1 hr).1
  by_cases hji : j = i
  ·subst hji; exact hy.wpOp hi hS ⟨fun h _ => h, H⟩
  ·have hjr := ready_mono (i := i) hj hji
   match fuel, H with
   | 0, H => rw [H.1] at hjr; cases hjr
   | fuel + 1, H =>
    have hlj := late_not_ready hd hiun hw hj
    obtain ⟨hjun, oj, hoj, hall⟩ := mem_ready.1 hj
    have hnot : ∀ e ∈ oj.after, Region.binds md e = true → e.on ≠ i := by
     rintro e he hb rfl
     have h1 := hall e he hb
     rcases Nat.lt_or_ge e.on listed.size with h' | h'
     ·simp [h'] at hiun h1; rw [hiun] at h1; cases h1
     ·simp [Array.getElem?_eq_none h'] at h1
    have h2 := wpOp_putIf hoj (hfree j oj hoj hji hjun hnot) (fun cs b => Region.noSelect_spec hsel i oi cs b hi) (fun cs b => Region.noSelect_spec hsel j oj cs b hoj) hQ hy (H.2 j hjr)
    refine wpOp_mono (fun a' w' h3 => ⟨fun _ _ => h3.2.1 hS hlj, ?_⟩) h2
    refine takeL hi hsel hw hQ fuel (listed.setIfInBounds j true) a' w' (hd.set hj) (fun k ok hk hki hun hno => hfree k ok hk hki ?_ hno) (ready_mono hr (Ne.symm hji)) h3.1 (h3.2.1 hS hlj) ?_
    ·by_cases hjk : j = k
     ·subst hjk; exact hjun
     ·rw [getD_set_ne true hjk] at hun; exact hun
    ·rw [Array.setIfInBounds_comm _ _ hji]
     exact h3.2.2
theorem takeF {i : Nat} {oi : Oper} {v : Value} (hi : ops[i]? = some oi) (hsel : Region.noSelect ops = true)
  (hQ : ∀ c a w, Q (.panic c) (a.put oi.dst v) w → Q (.panic c) a w) :
  ∀ (fuel : Nat) (listed : Array Bool) (a : Act) (w : World),
   (∀ j oj, ops[j]? = some oj → j ≠ i → listed.getD j true = false → (∀ e ∈ oj.after, Region.binds md e = true → e.on ≠ i) → oi.apart ops oj = true) →
   i ∈ Region.ready md ops listed → YieldsIf P ops (fun _ => True) oi v a →
   wpAnyL P md ops Q S late fuel (listed.setIfInBounds i true) (a.put oi.dst v) w → wpAnyL P md ops Q S late (fuel + 1) listed a w
 | fuel, listed, a, w, hfree, hr, hy, H => by
  refine ⟨fun h => (by rw [h] at hr; cases hr), fun j hj => ?_⟩
  have hiun := (mem_ready.1 hr).1
  by_cases hji : j = i
  ·subst hji; exact hy.wpOp hi trivial ⟨fun h _ => h, H⟩
  ·have hjr := ready_mono (i := i) hj hji
   match fuel, H with
   | 0, H => rw [H.1] at hjr; cases hjr
   | fuel + 1, H =>
    obtain ⟨hjun, oj, hoj, hall⟩ := mem_ready.1 hj
    have hnot : ∀ e ∈ oj.after, Region.binds md e = true → e.on ≠ i := by
     rintro e he hb rfl
     have h1 := hall e he hb
     rcases Nat.lt_or_ge e.on listed.size with h' | h'
     ·simp [h'] at hiun h1; rw [hiun] at h1; cases h1
     ·simp [Array.getElem?_eq_none h'] at h1
    have h2 := wpOp_putIf hoj (hfree j oj hoj hji hjun hnot) (fun cs b => Region.noSelect_spec hsel i oi cs b hi) (fun cs b => Region.noSelect_spec hsel j oj cs b hoj) hQ hy (H.2 j hjr)
    refine wpOp_mono (fun a' w' h3 => ⟨h3.2.1, ?_⟩) h2
    refine takeF hi hsel hQ fuel (listed.setIfInBounds j true) a' w' (fun k ok hk hki hun hno => hfree k ok hk hki ?_ hno) (ready_mono hr (Ne.symm hji)) h3.1 ?_
    ·by_cases hjk : j = k
     ·subst hjk; exact hjun
     ·rw [getD_set_ne true hjk] at hun; exact hun
    ·rw [Array.setIfInBounds_comm _ _ hji]
     exact h3.2.2
theorem wpAnyL_free {i : Nat} {oi : Oper} {v : Value} {fuel : Nat} {listed : Array Bool} {a : Act} {w : World} (hi : ops[i]? = some oi)
  (hs : Region.noSelect ops = true) (hf : Region.free md ops listed i = true) (hr : (Region.ready md ops listed).contains i = true)
  (hQ : ∀ c a w, Q (.panic c) (a.put oi.dst v) w → Q (.panic c) a w) (hy : YieldsIf P ops (fun _ => True) oi v a)
  (h : wpAnyL P md ops Q S late fuel (listed.setIfInBounds i true) (a.put oi.dst v) w) : wpAnyL P md ops Q S late (fuel + 1) listed a w :=
 takeF hi hs hQ fuel listed a w (Region.free_spec hi hf) (by simpa using hr) hy h
theorem wpAnyL_take {i : Nat} {oi : Oper} {v : Value} {fuel : Nat} {listed : Array Bool} {a : Act} {w : World} (hi : ops[i]? = some oi)
  (hs : Region.noSelect ops = true) (hf : Region.free md ops listed i = true) (hr : (Region.ready md ops listed).contains i = true) (hd : downB md ops listed = true) (hw : lateWait md ops late i = true)
  (hQ : ∀ c a w, Q (.panic c) (a.put oi.dst v) w → Q (.panic c) a w) (hy : YieldsIf P ops S oi v a) (hS : S w)
  (h : wpAnyL P md ops Q S late fuel (listed.setIfInBounds i true) (a.put oi.dst v) w) : wpAnyL P md ops Q S late (fuel + 1) listed a w :=
 takeL hi hs hw hQ fuel listed a w (downB_spec hd) (Region.free_spec hi hf) (by simpa using hr) hy hS h
theorem wpAnyL_one {i : Nat} {o : Oper} {fuel : Nat} {listed : Array Bool} {a : Act} {w : World} (hr : Region.ready md ops listed = [i]) (ho : ops[i]? = some o)
  (h : ∀ K : Act → World → Prop, Hid (∀ a' w', (S w → late i = false → S w') → wpAnyL P md ops Q S late fuel (listed.setIfInBounds i true) a' w' → K a' w') → if Region.wanted o (yielded ops a.tmps) then o.wp P a w K Q else K (a.put o.dst undef) w) :
  wpAnyL P md ops Q S late (fuel + 1) listed a w := by
 refine ⟨fun h0 => (by rw [hr] at h0; cases h0), fun j hj => ?_⟩
 rw [hr] at hj
 obtain rfl : j = i := by simpa using hj
 have h1 := h (fun a' w' => (S w → late j = false → S w') ∧ wpAnyL P md ops Q S late fuel (listed.setIfInBounds j true) a' w') (fun a' w' x y => ⟨x, y⟩)
 unfold wpOp
 simp only [ho]
 split
 ·next hwt => rw [if_pos hwt] at h1; exact .inl h1
 ·next hwt => rw [if_neg hwt] at h1; exact h1
theorem wpAnyL_done {listed : Array Bool} {a : Act} {w : World} (hr : Region.ready md ops listed = []) (h : Q .normal a w) : ∀ fuel, wpAnyL P md ops Q S late fuel listed a w
 | 0 => ⟨hr, h⟩
 | _ + 1 => ⟨fun _ => h, by rw [hr]; simp⟩
theorem wp_region_late {id : Nat} {a : Act} {w : World} (S : World → Prop) (late : Nat → Bool) (hm : P.follows .mixedOrders = true)
  (h : wpAnyL P .any ops Q S late ops.size (Array.replicate ops.size false) a w.drew) : (Code.region id ops true).wp P Q a w :=
 wp_region_any hm (wpAnyL_any _ _ _ _ h)
end
end

section
open Go.RowKit Dsk
set_option linter.unusedVariables false
set_option linter.unusedSimpArgs false
theorem Tryz.follows : Tryz.prog.follows .mixedOrders = true := by kernel_rfl
theorem add0 (b j : Nat) : ((⟨b, 0, none⟩ : Addr).add j) = ⟨b, j, none⟩ := by unfold Addr.add; by_cases h : j = 0 <;> simp [h]
theorem run_apps {P : Program} (w : World) (t ty e : TypeId) {z : Value} {s bs : Nat} (ht : P.underlying t = some (.slice e)) (hi : (P.info? e).map (fun i => (i.zero, i.size, i.bytes)) = some (some z, s, bs)) (hzs : z.cells.size = s) (hs : 0 < s)
  (v : Value) (n : Nat) (xs : List Value) (hown : w.ownsRow 0 e s v n xs) (yb yo m c0 : Nat) (ys : List Value) (hl : ys.length = m * s) (hy : ∀ j u, ys[j]? = some u → w.cell? ⟨yb, yo + j, none⟩ = some u) (h1 : ∀ u ∈ ys, u.oneCell' = true) (hm : 0 < m) (hn : n + m ≤ maxLen) (hb : (n + m) * bs ≤ 140737488355328) :
  ∃ g c w', (Builtin.append_ #[t, t] ty #[v, .slice (some ⟨yb, yo, none⟩) m c0]).run P w = .ok (.slice (some ⟨g, 0, none⟩) (n + m) c) w' ∧ w'.ownsRow 0 e s (.slice (some ⟨g, 0, none⟩) (n + m) c) (n + m) (xs ++ ys) ∧ w.grownBy w' v.ownBlock ∧ (some g = v.ownBlock ∨ g = w.heap.size) ∧ g < w'.heap.size := by
 obtain ⟨i0, hi, hz0, hz1, hz2⟩ := info_parts hi
 obtain ⟨v', w', hrun, h1', h2, h3, h4⟩ := run_append_own_at (P := P) w 0 t ty e i0 z s bs ht hi hz0 hz1 hz2 hzs hs v n xs hown ⟨yb, yo, none⟩ m c0 ys hl
  (fun j u hj => by rw [show ((⟨yb, yo, none⟩ : Addr).add j) = ⟨yb, yo + j, none⟩ from by unfold Addr.add; by_cases h : j = 0 <;> simp [h]]; exact hy j u hj) h1 hn hb (Nat.zero_le _)
 obtain ⟨g, c, hv⟩ : ∃ g c, v' = .slice (some ⟨g, 0, none⟩) (n + m) c := by
  rcases h1'.2 with ⟨e, e2⟩ | ⟨g, cap', cur, e, _⟩
  ·omega
  ·exact ⟨g, cap', e⟩
 subst hv
 refine ⟨g, c, w', hrun, h1', h2, ?_, (h1'.lt g rfl).2⟩
 rcases h4 with h4 | h4
 ·exact .inl h4
 ·simp only [Value.ownBlock, Option.some.injEq] at h4
  exact .inr h4
theorem run_app {P : Program} (w : World) (t ty e : TypeId) {z : Value} {s bs : Nat} (ht : P.underlying t = some (.slice e)) (hi : (P.info? e).map (fun i => (i.zero, i.size, i.bytes)) = some (some z, s, bs)) (hzs : z.cells.size = s) (hs : 0 < s)
  (v : Value) (n : Nat) (xs : List Value) (hown : w.ownsRow 0 e s v n xs) (ys : List Value) (hl : ys.length = s) (h1 : ∀ u ∈ ys, u.oneCell' = true) (hn : n + 1 ≤ maxLen) (hb : (n + 1) * bs ≤ 140737488355328) :
  ∃ g c w', (Builtin.append_ #[t, t] ty #[v, .slice (some ⟨w.heap.size, 0, none⟩) 1 1]).run P (w.alloc (.cells ys.toArray e)) = .ok (.slice (some ⟨g, 0, none⟩) (n + 1) c) w' ∧ w'.ownsRow 0 e s (.slice (some ⟨g, 0, none⟩) (n + 1) c) (n + 1) (xs ++ ys) ∧ (∀ F : Nat → Prop, (∀ k, v.ownBlock = some k → F k) → Keep F w w') ∧ (some g = v.ownBlock ∨ w.heap.size ≤ g) ∧ g < w'.heap.size := by
 obtain ⟨g, c, w', hrun, ho, hg, hb, hlt⟩ := run_apps (P := P) (w.alloc (.cells ys.toArray e)) t ty e ht hi hzs hs v n xs (hown.alloc _) w.heap.size 0 1 1 ys (by omega) (fun j u hj => by
  have hh : (w.alloc (.cells ys.toArray e)).heap[w.heap.size]? = some (.cells ys.toArray e (0, 0)) := (MapKept.heap_alloc w _).1
  rw [Nat.zero_add, cell_of_row _ _ j _ _ _ hh]
  simpa using hj) h1 (by omega) hn hb
 refine ⟨g, c, w', hrun, ho, fun F hF => ((Keep.refl F w).alloc _).grown hg (fun k e hk => hF k e), ?_, hlt⟩
 rcases hb with h | h
 ·exact .inl h
 ·exact .inr (by rw [h]; simp)
theorem wp_append_run {P : Program} {o : Oper} {a : Act} {w : World} {K : Act → World → Prop} {Q : Exit → Act → World → Prop} (s x : Operand) (t t2 : TypeId) (ho : o.op = .call { callee := .builtin .append, args := #[s, x], argTypes := #[t, t2] }) (vs vx : Value) (hs : a.eval s = vs) (hx : a.eval x = vx) (v' : Value) (w' : World)
  (hrun : (Builtin.append_ #[t, t2] o.type #[vs, vx]).run P w = .ok v' w') (hK : K (a.put o.dst v') w') : o.wp P a w K Q := by
 unfold Oper.wp execOp
 simp only [ho, resolve, invoke, builtin, Sem.run_bind, Sem.run_pure, Result.andThen_ok, List.map_toArray, List.map_cons, List.map_nil, hs, hx, hrun]
 exact hK
theorem wpList_app_run {P : Program} {ops : Array Oper} {rest : List Oper} {o : Oper} {a : Act} {w : World} {Q : Exit → Act → World → Prop} (hg : o.guard = none) (s x : Operand) (t t2 : TypeId) (ho : o.op = .call { callee := .builtin .append, args := #[s, x], argTypes := #[t, t2] }) (vs vx : Value) (hs : a.eval s = vs) (hx : a.eval x = vx) (v' : Value) (w' : World)
  (hrun : (Builtin.append_ #[t, t2] o.type #[vs, vx]).run P w = .ok v' w') (hK : wpList P ops Q rest (a.put o.dst v') w') : wpList P ops Q (o :: rest) a w :=
 wpList_plain hg fun K' hK' => wp_append_run s x t t2 ho vs vx hs hx v' w' hrun (hK' _ _ hK)
theorem own_shape {w : World} {base : Nat} {e : TypeId} {s : Nat} {v : Value} {n : Nat} {xs : List Value} (h : w.ownsRow base e s v n xs) : ∃ bo bc, v = .slice bo n bc ∧ n ≤ bc := by
 rcases h.2 with ⟨rfl, rfl⟩ | ⟨g, cap, cur, rfl, _, _, hn, _⟩
 ·exact ⟨none, 0, rfl, Nat.le_refl _⟩
 ·exact ⟨_, _, rfl, hn⟩
theorem own_ne {w : World} {base : Nat} {e T : TypeId} {s : Nat} {v : Value} {n q : Nat} {xs : List Value} {cs : Array Value} {fr : Nat × Nat} (h : w.ownsRow base e s v n xs) (hq : w.heap[q]? = some (.cells cs T fr)) (hT : T ≠ e) : v.ownBlock ≠ some q := by
 intro hv
 rcases h.2 with ⟨rfl, _⟩ | ⟨g, cap, cur, rfl, _, hg, _⟩
 ·simp [Value.ownBlock] at hv
 ·simp only [Value.ownBlock, Option.some.injEq] at hv
  subst hv
  rw [hg] at hq
  injection hq with hq
  injection hq with _ h2 _
  exact hT h2.symm
theorem own_nmap {w : World} {base : Nat} {e : TypeId} {s : Nat} {v : Value} {n b : Nat} {xs : List Value} (h : w.ownsRow base e s v n xs) (hb : ∃ es clock, w.heap[b]? = some (.map es clock)) : v.ownBlock ≠ some b := by
 intro hv
 obtain ⟨es, clock, hb⟩ := hb
 rcases h.2 with ⟨rfl, _⟩ | ⟨g, cap, cur, rfl, _, hg, _⟩
 ·simp [Value.ownBlock] at hv
 ·simp only [Value.ownBlock, Option.some.injEq] at hv
  subst hv
  rw [hg] at hb
  cases hb
theorem Mp.blk {w : World} {b : Nat} {A : Nat → Nat} {l : Nm} (h : Mp w b A l) : ∃ es clock, w.heap[b]? = some (.map es clock) := by
 obtain ⟨es, clock, hb, _⟩ := h
 exact ⟨es, clock, hb⟩
theorem Mp.lt {w : World} {b : Nat} {A : Nat → Nat} {l : Nm} (h : Mp w b A l) : b < w.heap.size := World.ownsMap.lt h
theorem map_ne {w : World} {b q : Nat} {A : Nat → Nat} {l : Nm} {o : Obj} (h : Mp w b A l) (hq : w.heap[q]? = some o) (ho : ∀ es clock, o ≠ .map es clock) : b ≠ q := by
 rintro rfl
 obtain ⟨es, clock, hb⟩ := h.blk
 rw [hb] at hq
 injection hq with hq
 exact ho _ _ hq.symm
end

end Go.Proofs.YtodihkdmneihiaaGreatDoor
