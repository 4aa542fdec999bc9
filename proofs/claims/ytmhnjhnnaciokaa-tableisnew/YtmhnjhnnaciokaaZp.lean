/-
  Contract: union.addBoth. (Written by tools/zp.py.)
-/
import Derived.Test.YtmhnjhnnaciokaaZo
namespace Go.Proofs.Ytmhnjhnnaciokaa
open Go.RowKit Go.Sort
set_option linter.unusedVariables false
set_option linter.unusedSimpArgs false

theorem wpList_build1 {ops : Array Oper} {rest : List Oper} {o : Oper} {a : Act} {w : World} {Q : Exit → Act → World → Prop} (hg : o.guard = none) (x : Operand) (ho : o.op = .buildSlice 22 1 #[(0, x)]) (e : Res) (hx : a.eval x = .agg e.cells.toArray)
    (h : wpList Try.prog ops Q rest (a.put o.dst (.slice (some ⟨w.heap.size, 0, none⟩) 1 1)) (w.alloc (.cells e.cells.toArray 26))) : wpList Try.prog ops Q (o :: rest) a w :=
  wpList_plain hg fun _ hK => wp_build1 x ho e hx (hK _ _ h)
def zeroI : Array Value := (bys (List.replicate 32 0)).toArray
theorem Try.infoIds : (Try.prog.info? 24).map (fun i => (i.zero, i.size, i.bytes)) = some (some (.agg zeroI), 32, 32) := by kernel_rfl
theorem fillI32 (f : Nat → UInt8) : Instr.fill (fun i => some (i * 32, 32)) ((Array.range (1 * 32)).map ((Value.agg zeroI).cells[· % (Value.agg zeroI).cells.size]!)) [(0, .agg (bys ((List.range 32).map f)).toArray)] = some (bys ((List.range 32).map f)).toArray := by kernel_rfl
theorem wp_buildI {o : Oper} {a : Act} {w : World} {K : Act → World → Prop} {Q : Exit → Act → World → Prop} (x : Operand) (ho : o.op = .buildSlice 32 1 #[(0, x)]) (A : List UInt8) (hA : A.length = 32) (hx : a.eval x = .agg (bys A).toArray)
    (h : K (a.put o.dst (.slice (some ⟨w.heap.size, 0, none⟩) 1 1)) (w.alloc (.cells (bys A).toArray 24))) : o.wp Try.prog a w K Q := by
  obtain ⟨i0, hi, hz0, hz1, hz2⟩ := info_parts Try.infoIds
  refine wp_buildSlice 32 24 1 #[(0, x)] ho (bys A).toArray i0 (.agg zeroI) Try.underlying32 hi hz0 (by rw [hz1]; decide) (by rw [hz1]; decide) ?_ h
  rw [hz1]
  have : (#[(0, x)].map fun (i, x) => (i, a.eval x)).toList = [(0, .agg (bys A).toArray)] := by simp [hx]
  rw [this]
  have := fillI32 (fun i => A.getD i 0)
  rw [range32 hA] at this
  exact this
/-- append(conflicts, id). -/
theorem run_appI {w : World} {base : Nat} {v : Value} {C : List (List UInt8)} (h : OwnI w base v C) (hb : base ≤ w.heap.size) (A : List UInt8) (hA : A.length = 32) (g : Nat) (hg : w.heap[g]? = some (.cells (bys A).toArray 24 (0, 0))) (hl : (C.length + 1) * 32 ≤ 140737488355328) :
    ∃ v' w', (Builtin.append_ #[32, 32] 32 #[v, .slice (some ⟨g, 0, none⟩) 1 1]).run Try.prog w = .ok v' w' ∧ OwnI w' base v' (C ++ [A]) ∧ (∀ l, (∀ g, v.ownBlock = some g → g ∈ l) → Kept l w w') ∧ (∀ g, v'.ownBlock = some g → v.ownBlock = some g ∨ w.heap.size ≤ g) := by
  obtain ⟨i0, hi, hz0, hz1, hz2⟩ := info_parts Try.infoIds
  obtain ⟨v', w', hrun, h1', h2, h3, h4⟩ := run_append_own_at (P := Try.prog) w base 32 32 24 i0 (.agg zeroI) 32 32 Try.underlying32 hi hz0 hz1 hz2 rfl (by omega) v C.length (idrows C) h.1 ⟨g, 0, none⟩ 1 1 (bys A) (by rw [bys_length, hA])
    (fun j u hj => by rw [Addr.add_mid, Nat.zero_add, cell_of_row _ _ _ _ _ _ hg]; simpa using hj) (bys_oneCell A) (by unfold maxLen; omega) hl hb
  refine ⟨v', w', hrun, ⟨?_, fun i hi => ?_⟩, fun l hl2 => (Kept.refl l w).grown h2 (fun k hk _ => hl2 k hk), fun g hg => ?_⟩
  · rw [List.length_append, idrows_snoc]
    exact h1'
  · simp only [List.mem_append, List.mem_singleton] at hi
    rcases hi with hi | rfl
    · exact h.2 i hi
    · exact hA
  · rcases h4 with h4 | h4
    · exact .inl (by rw [← h4]; exact hg)
    · rw [h4] at hg
      simp only [Option.some.injEq] at hg
      exact .inr (by omega)
theorem row8 {w0 w w8 : World} {U : Nat} {v vc : Value} {R : List Res} {C : List (List UInt8)} {e : Int} (h : Un w0 w U v vc R C e) (hk : ∀ l, (∀ g, vc.ownBlock = some g → g ∈ l) → Kept l w w8) : w8.heap[U]? = some (.cells #[v, vc, .int .i64 e] 57 (0, 0)) := by
  have hs : ∃ l : List Nat, (∀ g, vc.ownBlock = some g → g ∈ l) ∧ U ∉ l := by
    cases hv : vc.ownBlock with
    | none => exact ⟨[], by simp, by simp⟩
    | some g => exact ⟨[g], by simp, by simp; exact fun e => h.n2 g hv e.symm⟩
  obtain ⟨l, hl1, hl2⟩ := hs
  rw [(hk l hl1).block U h.lt hl2]
  exact h.row
theorem one_ress {w : World} {g : Nat} {e : Res} (h : w.rangeAt g 0 e.cells) : Ress w (some ⟨g, 0, none⟩) [e] := by
  intro i hi
  refine ⟨g, 0, rfl, ?_⟩
  have : i = 0 := by simp at hi; exact hi
  subst this
  exact h

namespace Tb
/-- What two results of one action make of a union: the results, the conflicts, why it is refused. -/
def both (z : Res) (ec : Int) (x y : Res) (s : List Res × List (List UInt8) × Int) : List Res × List (List UInt8) × Int :=
  if x = y then (s.1 ++ [x], s.2.1, s.2.2) else if ec = 0 then (s.1 ++ [z], s.2.1 ++ [x.action], s.2.2) else (s.1, s.2.1 ++ [x.action], ec)
end Tb

set_option maxHeartbeats 1600000 in
set_option maxRecDepth 100000 in
theorem both_same {w0 w : World} {U : Nat} {v vc : Value} {R : List Res} {C : List (List UInt8)} {e : Int} (h : Un w0 w U v vc R C e) (x : Res) (fv : Value) (hb : (R.length + 1) * 72 ≤ 140737488355328) :
    Calls Try.prog 36 #[.pointer (some ⟨U, 0, none⟩), .agg x.cells.toArray, .agg x.cells.toArray, fv] w fun r w' => r = .returned (.tuple #[]) ∧ ∃ v', Un w0 w' U v' vc (R ++ [x]) C e := by
  obtain ⟨y, hyx⟩ : ∃ y, y = x := ⟨_, rfl⟩
  obtain ⟨W0, hW0⟩ : ∃ W0, (w.alloc (.cells x.cells.toArray 26)).alloc (.cells x.cells.toArray 26) = W0 := ⟨_, rfl⟩
  obtain ⟨B1, hB1⟩ : ∃ B1, w.heap.size = B1 := ⟨_, rfl⟩
  obtain ⟨B2, hB2⟩ : ∃ B2, B1 + 1 = B2 := ⟨_, rfl⟩
  have hk0 : Kept [] w W0 := by rw [← hW0]; exact ((Kept.refl [] w).alloc _).alloc _
  have hr1 : W0.rangeAt B1 0 x.cells := by rw [← hW0, ← hB1]; exact res_range (by rw [heap_old (by simp)]; exact heap_new w _)
  have hr2 : W0.rangeAt B2 0 x.cells := by
    rw [← hB2, ← hB1, ← hW0]
    have := heap_new (w.alloc (.cells x.cells.toArray 26)) (.cells x.cells.toArray 26)
    rw [show (w.alloc (.cells x.cells.toArray 26)).heap.size = w.heap.size + 1 by simp] at this
    exact res_range this
  have i1 : (Try.prog.info? 26).map (·.size) = some x.cells.length := by rw [x.len]; exact Try.infoResS
  have heq : ∀ W, (Op.equalIn 10000 26 (.agg x.cells.toArray) (.agg x.cells.toArray)).run Try.prog W = .ok true W := fun W => by rw [Try.eqlRes]; simp
  have hadd : Calls Try.prog 35 #[.pointer (some ⟨U, 0, none⟩), .slice (some ⟨W0.heap.size, 0, none⟩) 1 1] (W0.alloc (.cells x.cells.toArray 26)) fun r w' => r = .returned (.tuple #[]) ∧ ∃ v', Un w0 w' U v' vc (R ++ [x]) C e :=
    add_ok (h.more (hk0.trans ((Kept.refl [] W0).alloc _) (by simp))) (some ⟨W0.heap.size, 0, none⟩) 1 1 [x] (one_ress (res_range (heap_new W0 _))) rfl (.inr ⟨_, rfl⟩) (by simp) hb
  clear h hk0
  go_enter Try.func36, Try.ntmps36
  go_wp2_with (first
      | refine wpList_load_mid rfl 26 (.tmp 5) rfl B1 0 rfl x.cells _ hr1 Try.underlying26 rfl i1 ?_
      | refine wpList_load_mid rfl 26 (.tmp 6) rfl B2 0 rfl x.cells _ hr2 Try.underlying26 rfl i1 ?_
      | refine wpList_build1 rfl (.tmp 14) rfl x rfl ?_
      | (go_at_call 35; refine hadd.mono ?_; rintro r w9 ⟨rfl, v', hu9⟩; have HU9 := hide hu9; clear hu9 hadd))
  exact bodyPost_ret (results_none rfl _ _ _) rfl ⟨rfl, _, HU9.out⟩

set_option maxHeartbeats 6400000 in
set_option maxRecDepth 100000 in
theorem both_other {w0 w : World} {U : Nat} {v vc : Value} {R : List Res} {C : List (List UInt8)} {e : Int} (h : Un w0 w U v vc R C e) (x y z : Res) (fk : Nat) (ec : Int) (hxy : x ≠ y) (hset : ∀ W, Calls Try.prog fk #[.agg x.cells.toArray, .agg y.cells.toArray] W fun r w' => r = .returned (.tuple #[.agg z.cells.toArray, .int .i64 ec]) ∧ Kept [] W w') (efk : ∀ args w, (callFunc fk args).run Try.prog w = .ok (.enter fk args) w) (hb : (R.length + 1) * 72 ≤ 140737488355328) (hb2 : (C.length + 1) * 32 ≤ 140737488355328) :
    Calls Try.prog 36 #[.pointer (some ⟨U, 0, none⟩), .agg x.cells.toArray, .agg y.cells.toArray, .func (.func fk) #[] #[]] w fun r w' => r = .returned (.tuple #[]) ∧ ∃ v' vc', Un w0 w' U v' vc' (if ec = 0 then R ++ [z] else R) (C ++ [x.action]) (if ec = 0 then e else ec) := by
  obtain ⟨W0, hW0⟩ : ∃ W0, (w.alloc (.cells x.cells.toArray 26)).alloc (.cells y.cells.toArray 26) = W0 := ⟨_, rfl⟩
  have hlt := h.lt
  have hvl : ∀ g, vc.ownBlock = some g → g < w.heap.size := fun g hg => (own_lt h.ids.1 hg).2
  obtain ⟨B1, hB1⟩ : ∃ B1, w.heap.size = B1 := ⟨_, rfl⟩
  obtain ⟨B2, hB2⟩ : ∃ B2, B1 + 1 = B2 := ⟨_, rfl⟩
  have hk0 : Kept [] w W0 := by rw [← hW0]; exact ((Kept.refl [] w).alloc _).alloc _
  have hr1 : W0.rangeAt B1 0 x.cells := by rw [← hW0, ← hB1]; exact res_range (by rw [heap_old (by simp)]; exact heap_new w _)
  have hr2 : W0.rangeAt B2 0 y.cells := by
    rw [← hB2, ← hB1, ← hW0]
    have := heap_new (w.alloc (.cells x.cells.toArray 26)) (.cells y.cells.toArray 26)
    rw [show (w.alloc (.cells x.cells.toArray 26)).heap.size = w.heap.size + 1 by simp] at this
    exact res_range this
  have i1 : (Try.prog.info? 26).map (·.size) = some x.cells.length := by rw [x.len]; exact Try.infoResS
  have i3 : (Try.prog.info? 26).map (·.size) = some y.cells.length := by rw [y.len]; exact Try.infoResS
  have i2 : (Try.prog.info? 24).map (·.size) = some (bys x.action).length := by rw [bys_length, x.ha]; kernel_rfl
  have heq : ∀ W, (Op.equalIn 10000 26 (.agg x.cells.toArray) (.agg y.cells.toArray)).run Try.prog W = .ok false W := fun W => by rw [Try.eqlRes]; simp [hxy]
  have HU0 : Hid (∀ W, Kept [] W0 W → Un w0 W U v vc R C e) := fun W hk => (h.more hk0).more hk
  obtain ⟨l, hl1, hl2⟩ : ∃ l : List Nat, (U ∈ l ∧ ∀ g, vc.ownBlock = some g → g ∈ l) ∧ ∀ g, g ∈ l → g < w.heap.size := by
    cases hv : vc.ownBlock with
    | none => exact ⟨[U], by simp, by simp; exact hlt⟩
    | some g => exact ⟨[U, g], by simp, by simp; exact ⟨hlt, hvl g hv⟩⟩
  have HUL : Hid (U ∈ l) := hl1.1
  have HL1 : Hid (∀ g, vc.ownBlock = some g → g ∈ l) := hl1.2
  have HBL : Hid (B1 ∉ l) := fun hm => by have := hl2 B1 hm; omega
  have HBL2 : Hid (B2 ∉ l) := fun hm => by have := hl2 B2 hm; omega
  have HB12 : Hid (B1 ≠ U ∧ B2 ≠ U) := ⟨by omega, by omega⟩
  clear h hk0 hl1 hl2 hlt hvl hxy
  go_enter Try.func36, Try.ntmps36
  go_upto_region 3 with (first
      | refine wpList_load_mid rfl 26 (.tmp 5) rfl B1 0 rfl x.cells _ hr1 Try.underlying26 rfl i1 ?_
      | refine wpList_load_mid rfl 26 (.tmp 6) rfl B2 0 rfl y.cells _ hr2 Try.underlying26 rfl i3 ?_)
  clear hW0 heq hB1 hB2
  have hra : W0.rangeAt B1 0 (bys x.action) := fun j v hv => by obtain ⟨hj1, rfl⟩ := bys_get hv; exact hr1 j _ (Res.act (by rw [← x.ha]; exact hj1))
  generalize hwr : W0 = wr at *
  clear hwr
  refine wp_region_held_drew (S := fun w' => Kept l wr w') (by kernel_rfl) ((Kept.refl l wr).drew) (fun h0 => ?_)
  have h0d : Kept [] wr (World.drew wr) := (Kept.refl [] wr).drew
  generalize World.drew wr = v0 at h0 h0d ⊢
  refine wpAnyH_take (i := 0) (v := .pointer (some ⟨U, 0, none⟩)) rfl (by kernel_rfl) (by kernel_rfl) (by kernel_rfl) (fun _ _ _ h => h) (Or.inl ⟨by rfl, fun w hSw => by go_simp⟩) h0 ?_
  try simp only [List.getElem_toArray, List.getElem_cons_zero, List.getElem_cons_succ, Act.put, List.setIfInBounds_toArray, List.set_cons_zero, List.set_cons_succ]
  refine wpAnyH_take (i := 1) (v := .pointer (some ⟨U, 0, none⟩)) rfl (by kernel_rfl) (by kernel_rfl) (by kernel_rfl) (fun _ _ _ h => h) (Or.inl ⟨by rfl, fun w hSw => by go_simp⟩) h0 ?_
  try simp only [List.getElem_toArray, List.getElem_cons_zero, List.getElem_cons_succ, Act.put, List.setIfInBounds_toArray, List.set_cons_zero, List.set_cons_succ]
  refine wpAnyH_take (i := 2) (v := .pointer (some ⟨U, 0, none⟩)) rfl (by kernel_rfl) (by kernel_rfl) (by kernel_rfl) (fun _ _ _ h => h) (Or.inl ⟨by rfl, fun w hSw => by go_simp⟩) h0 ?_
  try simp only [List.getElem_toArray, List.getElem_cons_zero, List.getElem_cons_succ, Act.put, List.setIfInBounds_toArray, List.set_cons_zero, List.set_cons_succ]
  refine wpAnyH_take (i := 3) (v := .pointer (some ⟨U, 1, none⟩)) rfl (by kernel_rfl) (by kernel_rfl) (by kernel_rfl) (fun _ _ _ h => h) (Or.inl ⟨by rfl, fun w hSw => by go_simp⟩) h0 ?_
  try simp only [List.getElem_toArray, List.getElem_cons_zero, List.getElem_cons_succ, Act.put, List.setIfInBounds_toArray, List.set_cons_zero, List.set_cons_succ]
  refine wpAnyH_take (i := 5) (v := .pointer (some ⟨B1, 0, none⟩)) rfl (by kernel_rfl) (by kernel_rfl) (by kernel_rfl) (fun _ _ _ h => h) (Or.inl ⟨by rfl, fun w hSw => by go_simp⟩) h0 ?_
  try simp only [List.getElem_toArray, List.getElem_cons_zero, List.getElem_cons_succ, Act.put, List.setIfInBounds_toArray, List.set_cons_zero, List.set_cons_succ]
  refine wpAnyH_take (i := 6) rfl (by kernel_rfl) (by kernel_rfl) (by kernel_rfl) (fun _ _ _ h => h) (yieldsIf_load_mid (by rfl) _ _ rfl _ _ rfl _ _ (fun w h j v hv => Kept.cellOf h (hra j v hv) HBL.out) Try.underlying24 rfl i2) h0 ?_
  try simp only [List.getElem_toArray, List.getElem_cons_zero, List.getElem_cons_succ, Act.put, List.setIfInBounds_toArray, List.set_cons_zero, List.set_cons_succ]
  have HU := hide (HU0.out v0 h0d)
  refine wpAnyH_ready (rs := [4, 7]) (by kernel_rfl) (by simp) (AllReadyH.cons (i := 4) rfl (fun K hK => ?_) (AllReadyH.cons (i := 7) rfl (fun K hK => ?_) AllReadyH.nil))
  next =>
    rw [if_pos (by rfl)]
    have c1 : v0.cell? ⟨U, 1, none⟩ = some vc := HU.out.cell 1
    go_simp
    refine hK.out _ _ h0 (fun h1 => ?_)
    clear hK K c1 h0
    try simp only [List.getElem_toArray, List.getElem_cons_zero, List.getElem_cons_succ, Act.put, List.setIfInBounds_toArray, List.set_cons_zero, List.set_cons_succ]
    refine wpAnyH_ready (rs := [7]) (by kernel_rfl) (by simp) (AllReadyH.cons (i := 7) rfl (fun K hK => ?_) AllReadyH.nil)
    rw [if_pos (by rfl)]
    refine wp_buildI (.tmp 23) rfl x.action x.ha rfl ?_
    have hn7 := heap_new v0 (.cells (bys x.action).toArray 24)
    have hx7 : Kept [] v0 (v0.alloc (.cells (bys x.action).toArray 24)) := (Kept.refl [] v0).alloc _
    refine hK.out _ _ (h1.trans hx7 (by simp)) (fun h2 => ?_)
    clear hK K
    try simp only [List.getElem_toArray, List.getElem_cons_zero, List.getElem_cons_succ, Act.put, List.setIfInBounds_toArray, List.set_cons_zero, List.set_cons_succ]
    replace HU := hide (HU.out.more hx7)
    generalize v0.alloc (.cells (bys x.action).toArray 24) = v7 at h2 hn7 HU ⊢
    generalize v0.heap.size = g7 at hn7 ⊢
    clear hx7 h1
    refine wpAnyH_ready (rs := [8]) (by kernel_rfl) (by simp) (AllReadyH.cons (i := 8) rfl (fun K hK => ?_) AllReadyH.nil)
    rw [if_pos (by rfl)]
    obtain ⟨vc', w8, hrun, ho8, hk8, hb8⟩ := run_appI HU.out.ids (HU.out.k.size) x.action x.ha g7 hn7 (by omega)
    refine wp_append_run (.tmp 21) (.tmp 24) 32 32 rfl _ _ rfl rfl vc' w8 hrun ?_
    refine hK.out _ _ (h2.trans (hk8 l HL1.out) (fun i hi _ => hi)) (fun h3 => ?_)
    clear hK K
    try simp only [List.getElem_toArray, List.getElem_cons_zero, List.getElem_cons_succ, Act.put, List.setIfInBounds_toArray, List.set_cons_zero, List.set_cons_succ]
    have hrow8 := row8 HU.out hk8
    have c8 : w8.cell? ⟨U, 1, none⟩ = some vc := by rw [cell_of_row _ _ _ _ _ _ hrow8]; rfl
    have f8 : w8.frozen? ⟨U, 1, none⟩ = false := frozen_of_row _ _ _ _ _ hrow8
    have HU8 := hide (HU.out.putI ho8 hk8 hb8)
    obtain ⟨bo, bn, bc, rfl⟩ : ∃ bo bn bc, vc' = .slice bo bn bc := by
      obtain ⟨bo, bc, e, _⟩ := own_shape ho8.1
      exact ⟨bo, _, bc, e⟩
    clear ho8 hk8 hb8 hrun hn7 hrow8 HU
    refine wpAnyH_take (i := 9) (v := .pointer (some ⟨U, 0, none⟩)) rfl (by kernel_rfl) (by kernel_rfl) (by kernel_rfl) (fun _ _ _ h => h) (Or.inl ⟨by rfl, fun w hSw => by go_simp⟩) h3 ?_
    try simp only [List.getElem_toArray, List.getElem_cons_zero, List.getElem_cons_succ, Act.put, List.setIfInBounds_toArray, List.set_cons_zero, List.set_cons_succ]
    refine wpAnyH_take (i := 10) (v := .pointer (some ⟨U, 1, none⟩)) rfl (by kernel_rfl) (by kernel_rfl) (by kernel_rfl) (fun _ _ _ h => h) (Or.inl ⟨by rfl, fun w hSw => by go_simp⟩) h3 ?_
    try simp only [List.getElem_toArray, List.getElem_cons_zero, List.getElem_cons_succ, Act.put, List.setIfInBounds_toArray, List.set_cons_zero, List.set_cons_succ]
    refine wpAnyH_ready (rs := [11]) (by kernel_rfl) (by simp) (AllReadyH.cons (i := 11) rfl (fun K hK => ?_) AllReadyH.nil)
    rw [if_pos (by rfl)]
    go_simp
    refine hK.out _ _ (h3.setCell (fun _ => HUL.out) _) (fun h4 => ?_)
    clear hK K c8 f8 h3
    try simp only [List.getElem_toArray, List.getElem_cons_zero, List.getElem_cons_succ, Act.put, List.setIfInBounds_toArray, List.set_cons_zero, List.set_cons_succ]
    refine wpAnyH_done (by kernel_rfl) ?_ _
    generalize w8.setCell ⟨U, 1, none⟩ (.slice bo bn bc) = w9 at *
    skip
    have hr1w : w9.rangeAt B1 0 x.cells := fun j v hv => h4.cellOf (hr1 j v hv) HBL.out
    have hr2w : w9.rangeAt B2 0 y.cells := fun j v hv => h4.cellOf (hr2 j v hv) HBL2.out
    have hz := Try.zeroRes
    have iz : (Try.prog.info? 26).map (·.size) = some z.cells.length := by rw [z.len]; exact Try.infoResS
    have hia : (Try.prog.info? 26).map (·.size) = some z.cells.toArray.size := by rw [res_size]; exact Try.infoResS
    have hzs := zero_size z
    have hal := res_all z
    have hst := hset w9
    have H4 := hide h4
    clear h4 hr1 hr2 hra hset
    go_upto_region 5 with (first
      | refine wpList_load_mid rfl 26 (.tmp 5) rfl B1 0 rfl x.cells _ hr1w Try.underlying26 rfl i1 ?_
      | refine wpList_load_mid rfl 26 (.tmp 6) rfl B2 0 rfl y.cells _ hr2w Try.underlying26 rfl i3 ?_
      | (go_at_fn fk; refine hst.mono ?_; rintro r w10 ⟨rfl, hk10⟩; have HU10 := hide (HU8.out.more hk10); have hnz := new_zero w10; clear hst hr1w hr2w)
      | refine wpList_store_rowTo rfl 26 (.tmp 8) (.tmp 33) rfl rfl w10.heap.size z.cells.toArray rfl rfl 26 zeroR hnz hia hzs hal ?_)
    have hW : (w10.alloc (.cells zeroR 26)).setRow w10.heap.size z.cells.toArray = withRes w10 z := rfl
    rw [hW]
    have hkW : Kept [] w10 (withRes w10 z) := Kept.of_below (withRes_below w10 z)
    have HU11 := hide (HU10.out.more hkW)
    have hrz := res_range (withRes_row w10 z)
    clear hW hnz hia hzs hal hkW
    generalize withRes w10 z = w11 at hrz HU11 ⊢
    generalize w10.heap.size = B3 at hrz ⊢
    by_cases hec : ec = 0
    · subst hec
      have hadd : Calls Try.prog 35 #[.pointer (some ⟨U, 0, none⟩), .slice (some ⟨w11.heap.size, 0, none⟩) 1 1] (w11.alloc (.cells z.cells.toArray 26)) fun r w' => r = .returned (.tuple #[]) ∧ ∃ v', Un w0 w' U v' (.slice bo bn bc) (R ++ [z]) (C ++ [x.action]) e :=
        add_ok (HU11.out.more ((Kept.refl [] w11).alloc _)) (some ⟨w11.heap.size, 0, none⟩) 1 1 [z] (one_ress (res_range (heap_new w11 _))) rfl (.inr ⟨_, rfl⟩) (by simp) hb
      go_wp2_with (first
        | refine wpList_load_mid rfl 26 (.tmp 8) rfl B3 0 rfl z.cells _ hrz Try.underlying26 rfl iz ?_
        | refine wpList_build1 rfl (.tmp 42) rfl z rfl ?_
        | (go_at_call 35; refine hadd.mono ?_; rintro r w12 ⟨rfl, v', hu⟩; have HU12 := hide hu; clear hu hadd))
      go_end0
      exact ⟨rfl, v', _, HU12.out⟩
    · have hne : (ec != 0) = true := by simp [hec]
      have c2 : w11.cell? ⟨U, 2, none⟩ = some (.int .i64 e) := HU11.out.cell 2
      have f2 : w11.frozen? ⟨U, 2, none⟩ = false := HU11.out.free 2
      have HU12 := hide (HU11.out.refuse ec)
      have HEC := hide hec
      clear hec
      go_wp2
      refine bodyPost_ret (results_none rfl _ _ _) rfl ⟨rfl, v, .slice bo bn bc, ?_⟩
      first | exact HU12.out | (rw [if_neg HEC.out, if_neg HEC.out]; exact HU12.out)
  next =>
    rw [if_pos (by rfl)]
    refine wp_buildI (.tmp 23) rfl x.action x.ha rfl ?_
    have hn7 := heap_new v0 (.cells (bys x.action).toArray 24)
    have hx7 : Kept [] v0 (v0.alloc (.cells (bys x.action).toArray 24)) := (Kept.refl [] v0).alloc _
    refine hK.out _ _ (h0.trans hx7 (by simp)) (fun h1 => ?_)
    clear hK K
    try simp only [List.getElem_toArray, List.getElem_cons_zero, List.getElem_cons_succ, Act.put, List.setIfInBounds_toArray, List.set_cons_zero, List.set_cons_succ]
    replace HU := hide (HU.out.more hx7)
    generalize v0.alloc (.cells (bys x.action).toArray 24) = v7 at h1 hn7 HU ⊢
    generalize v0.heap.size = g7 at hn7 ⊢
    clear hx7 h0
    refine wpAnyH_ready (rs := [4]) (by kernel_rfl) (by simp) (AllReadyH.cons (i := 4) rfl (fun K hK => ?_) AllReadyH.nil)
    rw [if_pos (by rfl)]
    have c1 : v7.cell? ⟨U, 1, none⟩ = some vc := HU.out.cell 1
    go_simp
    refine hK.out _ _ h1 (fun h2 => ?_)
    clear hK K c1 h1
    try simp only [List.getElem_toArray, List.getElem_cons_zero, List.getElem_cons_succ, Act.put, List.setIfInBounds_toArray, List.set_cons_zero, List.set_cons_succ]
    refine wpAnyH_ready (rs := [8]) (by kernel_rfl) (by simp) (AllReadyH.cons (i := 8) rfl (fun K hK => ?_) AllReadyH.nil)
    rw [if_pos (by rfl)]
    obtain ⟨vc', w8, hrun, ho8, hk8, hb8⟩ := run_appI HU.out.ids (HU.out.k.size) x.action x.ha g7 hn7 (by omega)
    refine wp_append_run (.tmp 21) (.tmp 24) 32 32 rfl _ _ rfl rfl vc' w8 hrun ?_
    refine hK.out _ _ (h2.trans (hk8 l HL1.out) (fun i hi _ => hi)) (fun h3 => ?_)
    clear hK K
    try simp only [List.getElem_toArray, List.getElem_cons_zero, List.getElem_cons_succ, Act.put, List.setIfInBounds_toArray, List.set_cons_zero, List.set_cons_succ]
    have hrow8 := row8 HU.out hk8
    have c8 : w8.cell? ⟨U, 1, none⟩ = some vc := by rw [cell_of_row _ _ _ _ _ _ hrow8]; rfl
    have f8 : w8.frozen? ⟨U, 1, none⟩ = false := frozen_of_row _ _ _ _ _ hrow8
    have HU8 := hide (HU.out.putI ho8 hk8 hb8)
    obtain ⟨bo, bn, bc, rfl⟩ : ∃ bo bn bc, vc' = .slice bo bn bc := by
      obtain ⟨bo, bc, e, _⟩ := own_shape ho8.1
      exact ⟨bo, _, bc, e⟩
    clear ho8 hk8 hb8 hrun hn7 hrow8 HU
    refine wpAnyH_take (i := 9) (v := .pointer (some ⟨U, 0, none⟩)) rfl (by kernel_rfl) (by kernel_rfl) (by kernel_rfl) (fun _ _ _ h => h) (Or.inl ⟨by rfl, fun w hSw => by go_simp⟩) h3 ?_
    try simp only [List.getElem_toArray, List.getElem_cons_zero, List.getElem_cons_succ, Act.put, List.setIfInBounds_toArray, List.set_cons_zero, List.set_cons_succ]
    refine wpAnyH_take (i := 10) (v := .pointer (some ⟨U, 1, none⟩)) rfl (by kernel_rfl) (by kernel_rfl) (by kernel_rfl) (fun _ _ _ h => h) (Or.inl ⟨by rfl, fun w hSw => by go_simp⟩) h3 ?_
    try simp only [List.getElem_toArray, List.getElem_cons_zero, List.getElem_cons_succ, Act.put, List.setIfInBounds_toArray, List.set_cons_zero, List.set_cons_succ]
    refine wpAnyH_ready (rs := [11]) (by kernel_rfl) (by simp) (AllReadyH.cons (i := 11) rfl (fun K hK => ?_) AllReadyH.nil)
    rw [if_pos (by rfl)]
    go_simp
    refine hK.out _ _ (h3.setCell (fun _ => HUL.out) _) (fun h4 => ?_)
    clear hK K c8 f8 h3
    try simp only [List.getElem_toArray, List.getElem_cons_zero, List.getElem_cons_succ, Act.put, List.setIfInBounds_toArray, List.set_cons_zero, List.set_cons_succ]
    refine wpAnyH_done (by kernel_rfl) ?_ _
    generalize w8.setCell ⟨U, 1, none⟩ (.slice bo bn bc) = w9 at *
    skip
    have hr1w : w9.rangeAt B1 0 x.cells := fun j v hv => h4.cellOf (hr1 j v hv) HBL.out
    have hr2w : w9.rangeAt B2 0 y.cells := fun j v hv => h4.cellOf (hr2 j v hv) HBL2.out
    have hz := Try.zeroRes
    have iz : (Try.prog.info? 26).map (·.size) = some z.cells.length := by rw [z.len]; exact Try.infoResS
    have hia : (Try.prog.info? 26).map (·.size) = some z.cells.toArray.size := by rw [res_size]; exact Try.infoResS
    have hzs := zero_size z
    have hal := res_all z
    have hst := hset w9
    have H4 := hide h4
    clear h4 hr1 hr2 hra hset
    go_upto_region 5 with (first
      | refine wpList_load_mid rfl 26 (.tmp 5) rfl B1 0 rfl x.cells _ hr1w Try.underlying26 rfl i1 ?_
      | refine wpList_load_mid rfl 26 (.tmp 6) rfl B2 0 rfl y.cells _ hr2w Try.underlying26 rfl i3 ?_
      | (go_at_fn fk; refine hst.mono ?_; rintro r w10 ⟨rfl, hk10⟩; have HU10 := hide (HU8.out.more hk10); have hnz := new_zero w10; clear hst hr1w hr2w)
      | refine wpList_store_rowTo rfl 26 (.tmp 8) (.tmp 33) rfl rfl w10.heap.size z.cells.toArray rfl rfl 26 zeroR hnz hia hzs hal ?_)
    have hW : (w10.alloc (.cells zeroR 26)).setRow w10.heap.size z.cells.toArray = withRes w10 z := rfl
    rw [hW]
    have hkW : Kept [] w10 (withRes w10 z) := Kept.of_below (withRes_below w10 z)
    have HU11 := hide (HU10.out.more hkW)
    have hrz := res_range (withRes_row w10 z)
    clear hW hnz hia hzs hal hkW
    generalize withRes w10 z = w11 at hrz HU11 ⊢
    generalize w10.heap.size = B3 at hrz ⊢
    by_cases hec : ec = 0
    · subst hec
      have hadd : Calls Try.prog 35 #[.pointer (some ⟨U, 0, none⟩), .slice (some ⟨w11.heap.size, 0, none⟩) 1 1] (w11.alloc (.cells z.cells.toArray 26)) fun r w' => r = .returned (.tuple #[]) ∧ ∃ v', Un w0 w' U v' (.slice bo bn bc) (R ++ [z]) (C ++ [x.action]) e :=
        add_ok (HU11.out.more ((Kept.refl [] w11).alloc _)) (some ⟨w11.heap.size, 0, none⟩) 1 1 [z] (one_ress (res_range (heap_new w11 _))) rfl (.inr ⟨_, rfl⟩) (by simp) hb
      go_wp2_with (first
        | refine wpList_load_mid rfl 26 (.tmp 8) rfl B3 0 rfl z.cells _ hrz Try.underlying26 rfl iz ?_
        | refine wpList_build1 rfl (.tmp 42) rfl z rfl ?_
        | (go_at_call 35; refine hadd.mono ?_; rintro r w12 ⟨rfl, v', hu⟩; have HU12 := hide hu; clear hu hadd))
      go_end0
      exact ⟨rfl, v', _, HU12.out⟩
    · have hne : (ec != 0) = true := by simp [hec]
      have c2 : w11.cell? ⟨U, 2, none⟩ = some (.int .i64 e) := HU11.out.cell 2
      have f2 : w11.frozen? ⟨U, 2, none⟩ = false := HU11.out.free 2
      have HU12 := hide (HU11.out.refuse ec)
      have HEC := hide hec
      clear hec
      go_wp2
      refine bodyPost_ret (results_none rfl _ _ _) rfl ⟨rfl, v, .slice bo bn bc, ?_⟩
      first | exact HU12.out | (rw [if_neg HEC.out, if_neg HEC.out]; exact HU12.out)
end Go.Proofs.Ytmhnjhnnaciokaa
