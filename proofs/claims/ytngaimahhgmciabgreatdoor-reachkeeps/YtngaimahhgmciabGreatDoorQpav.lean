import Derived.Test.YtngaimahhgmciabGreatDoorQ9cv
import Derived.Test.YtngaimahhgmciabGreatDoorQ9vv
import Derived.Test.YtngaimahhgmciabGreatDoorNpv
import Derived.WalkKit
import Derived.Deep.RegionHeld3
namespace Go.Proofs.YtngaimahhgmciabGreatDoor
section
open Go.RowKit Go.Lib Go.Sort
set_option linter.unusedVariables false
set_option linter.unusedSimpArgs false

theorem own_types9 {w : World} {b1 b2 : Nat} {e f : TypeId} {s1 s2 : Nat} {v u : Value} {n m : Nat} {xs ys : List Value} (h1 : w.ownsRow b1 e s1 v n xs) (h2 : w.ownsRow b2 f s2 u m ys) (hne : e ≠ f) (g : Nat) (hg : u.ownBlock = some g) : v.ownBlock ≠ some g := by
  intro hv
  rcases h1.2 with ⟨rfl, _⟩ | ⟨g1, c1, cur1, rfl, _, hg1, _⟩
  · simp [Value.ownBlock] at hv
  · rcases h2.2 with ⟨rfl, _⟩ | ⟨g2, c2, cur2, rfl, _, hg2, _⟩
    · simp [Value.ownBlock] at hg
    · simp [Value.ownBlock] at hv hg
      subst hv hg
      rw [hg1] at hg2
      injection hg2 with hg2
      injection hg2 with _ h _
      exact hne h
theorem own_cell9 {w : World} {b1 : Nat} {e f : TypeId} {s1 : Nat} {v : Value} {n : Nat} {xs : List Value} {B : Nat} {cs : Array Value} {fr : Nat × Nat} (h1 : w.ownsRow b1 e s1 v n xs) (h2 : w.heap[B]? = some (.cells cs f fr)) (hne : e ≠ f) : v.ownBlock ≠ some B := by
  intro hv
  rcases h1.2 with ⟨rfl, _⟩ | ⟨g1, c1, cur1, rfl, _, hg1, _⟩
  · simp [Value.ownBlock] at hv
  · simp only [Value.ownBlock, Option.some.injEq] at hv
    subst hv
    rw [h2] at hg1
    injection hg1 with hg2
    injection hg2 with _ h _
    exact hne h.symm
theorem own_kept9 {w w' : World} {b1 : Nat} {e : TypeId} {s1 : Nat} {v : Value} {n : Nat} {xs : List Value} {l : List Nat} (h : w.ownsRow b1 e s1 v n xs) (hk : Kept l w w') (hn : ∀ g, v.ownBlock = some g → g ∉ l) : w'.ownsRow b1 e s1 v n xs := by
  refine ⟨h.1, ?_⟩
  rcases h.2 with h1 | ⟨g, cap, cur, hv, hb, hg, rest⟩
  · exact .inl h1
  · refine .inr ⟨g, cap, cur, hv, hb, ?_, rest⟩
    rw [hk.block g (Array.getElem?_eq_some_iff.1 hg).1 (hn g (by rw [hv]; rfl))]
    exact hg
theorem own_far9 {w : World} {b1 : Nat} {e : TypeId} {s1 : Nat} {v : Value} {n : Nat} {xs : List Value} (h : w.ownsRow b1 e s1 v n xs) (g : Nat) (hg : v.ownBlock = some g) : b1 ≤ g := by
  rcases h.2 with ⟨rfl, _⟩ | ⟨g1, c1, cur1, rfl, hb, _⟩
  · simp [Value.ownBlock] at hg
  · simp only [Value.ownBlock, Option.some.injEq] at hg
    omega
/-- append of one element of one cell. -/
theorem run_app1_9 {w : World} {base : Nat} {v : Value} {xs : List Value} (t e : TypeId) (z : Value) (bs : Nat) (ht : Tryz.prog.underlying t = some (.slice e)) (hinf : (Tryz.prog.info? e).map (fun i => (i.zero, i.size, i.bytes)) = some (some z, 1, bs)) (hzs : z.cells.size = 1)
    (h : w.ownsRow base e 1 v xs.length xs) (hb : base ≤ w.heap.size) (u : Value) (hu : u.oneCell' = true) (hl : (xs.length + 1) * bs ≤ 140737488355328) (hml : xs.length + 1 ≤ 9223372036854775807) :
    ∃ g c w', (Builtin.append_ #[t, t] t #[v, .slice (some ⟨w.heap.size, 0, none⟩) 1 1]).run Tryz.prog (w.alloc (.cells #[u] e)) = .ok (.slice (some ⟨g, 0, none⟩) (xs.length + 1) c) w' ∧ w'.ownsRow base e 1 (.slice (some ⟨g, 0, none⟩) (xs.length + 1) c) (xs.length + 1) (xs ++ [u]) ∧ Kept v.ownBlock.toList w w' := by
  obtain ⟨i0, hi, hz0, hz1, hz2⟩ := info_parts hinf
  have hnew := new_atK w (.cells #[u] e)
  have hown := own_kept9 h ((Kept.refl [] w).alloc (.cells #[u] e)) (fun _ _ => by simp)
  obtain ⟨v', w', hrun, h1', h2, h3, h4⟩ := run_append_own_at (P := Tryz.prog) (w.alloc (.cells #[u] e)) base t t e i0 z 1 bs ht hi hz0 hz1 hz2 hzs (by omega) v xs.length xs hown ⟨w.heap.size, 0, none⟩ 1 1 [u] rfl
    (fun j u' hj => by
      cases j with
      | zero => simp only [List.getElem?_cons_zero, Option.some.injEq] at hj; subst hj; rw [Addr.add_mid, cell_of_row _ _ _ _ _ _ hnew]; rfl
      | succ j => simp at hj) (by simpa using hu) (by unfold maxLen; omega) hl (by simp; omega)
  rcases h1'.2 with ⟨_, e2⟩ | ⟨g, c, cur, e1, _⟩
  · omega
  · subst e1
    exact ⟨g, c, w', hrun, h1', ((Kept.refl _ w).alloc _).grown h2 (fun k hk _ => by simp [hk])⟩

/-- The document's source while it is made, in block B since w3. -/
structure Ps9 (w3 wr : World) (B : Nat) (vi vd vc : Value) (I : List (List UInt8)) (D C : List Value) : Prop where
  row : wr.heap[B]? = some (.cells #[vi, vd, vc] 70 (0, 0))
  i : OwnI wr w3.heap.size vi I
  d : wr.ownsRow w3.heap.size 33 1 vd D.length D
  c : wr.ownsRow w3.heap.size 3 1 vc C.length C
  kp : Kept [B] w3 wr
  bs : B < w3.heap.size
section
variable {w3 w w' : World} {B : Nat} {vi vd vc : Value} {I : List (List UInt8)} {D C : List Value}
theorem Ps9.kept (h : Ps9 w3 w B vi vd vc I D C) (hk : Kept [] w w') : Ps9 w3 w' B vi vd vc I D C :=
  ⟨by rw [hk.block B (Array.getElem?_eq_some_iff.1 h.row).1 (by simp)]; exact h.row, h.i.kept hk (fun _ _ => by simp), own_kept9 h.d hk (fun _ _ => by simp), own_kept9 h.c hk (fun _ _ => by simp), h.kp.trans hk (by simp), h.bs⟩
theorem ne_idB : (36 : TypeId) ≠ 33 ∧ (36 : TypeId) ≠ 3 ∧ (33 : TypeId) ≠ 3 ∧ (36 : TypeId) ≠ 70 ∧ (33 : TypeId) ≠ 70 ∧ (3 : TypeId) ≠ 70 := by decide
theorem Ps9.cell (h : Ps9 w3 w B vi vd vc I D C) : w.cell? ⟨B, 0, none⟩ = some vi ∧ w.cell? ⟨B, 1, none⟩ = some vd ∧ w.cell? ⟨B, 2, none⟩ = some vc := by
  refine ⟨?_, ?_, ?_⟩ <;> (rw [cell_of_row _ _ _ _ _ _ h.row]; rfl)
theorem Ps9.lt (h : Ps9 w3 w B vi vd vc I D C) : B < w.heap.size := (Array.getElem?_eq_some_iff.1 h.row).1
theorem Ps9.putI (h : Ps9 w3 w B vi vd vc I D C) (x : List UInt8) (hx : x.length = 32) (hl : (I.length + 1) * 32 ≤ 140737488355328) :
    ∃ g c w', (Builtin.append_ #[28, 28] 28 #[vi, .slice (some ⟨w.heap.size, 0, none⟩) 1 1]).run Tryz.prog (w.alloc (.cells (bys x).toArray 36)) = .ok (.slice (some ⟨g, 0, none⟩) (I.length + 1) c) w' ∧
      (w'.cell? ⟨B, 0, none⟩).isSome = true ∧ w'.frozen? ⟨B, 0, none⟩ = false ∧ Ps9 w3 (w'.setCell ⟨B, 0, none⟩ (.slice (some ⟨g, 0, none⟩) (I.length + 1) c)) B (.slice (some ⟨g, 0, none⟩) (I.length + 1) c) vd vc (I ++ [x]) D C := by
  have ka : Kept [] w (w.alloc (.cells (bys x).toArray 36)) := (Kept.refl [] w).alloc _
  have h0 := h.kept ka
  obtain ⟨v', w', hrun, h1, h2, _⟩ := run_appI h0.i h0.kp.size x hx w.heap.size (new_atK _ _) hl
  obtain ⟨q1, q2, q3, q4, q5, q6⟩ := ne_idB
  obtain ⟨g, c, e⟩ : ∃ g c, v' = .slice (some ⟨g, 0, none⟩) (I.length + 1) c := by
    rcases h1.1.2 with ⟨_, e2⟩ | ⟨g, c, cur, e1, _⟩
    · rw [List.length_append] at e2; simp at e2
    · exact ⟨g, c, by rw [e1, List.length_append]; rfl⟩
  subst e
  have k1 := h2 vi.ownBlock.toList (fun g hg => by simp [hg])
  have hrow : w'.heap[B]? = some (.cells #[vi, vd, vc] 70 (0, 0)) := by
    rw [k1.block B (Array.getElem?_eq_some_iff.1 h0.row).1 (by simpa using own_cell9 h0.i.1 h0.row q4)]
    exact h0.row
  have ks : Kept [B] w' (w'.setCell ⟨B, 0, none⟩ (.slice (some ⟨g, 0, none⟩) (I.length + 1) c)) := (Kept.refl [B] w').setCell (fun _ => by simp) _
  have hd := own_kept9 h0.d k1 (fun g hg => by simpa using own_types9 h0.i.1 h0.d q1 g hg)
  have hc := own_kept9 h0.c k1 (fun g hg => by simpa using own_types9 h0.i.1 h0.c q2 g hg)
  refine ⟨g, c, w', hrun, by rw [cell_of_row _ _ _ _ _ _ hrow]; rfl, frozen_of_row _ _ _ _ _ hrow, ?_, h1.kept ks (fun g hg => by simp only [List.mem_singleton]; rintro rfl; exact own_cell9 h1.1 hrow q4 hg), own_kept9 hd ks (fun g hg => by simp only [List.mem_singleton]; rintro rfl; exact own_cell9 hd hrow q5 hg), own_kept9 hc ks (fun g hg => by simp only [List.mem_singleton]; rintro rfl; exact own_cell9 hc hrow q6 hg), ?_, h.bs⟩
  · rw [heap_setCell_same w' _ 0 _ _ _ hrow]
    rfl
  · exact (h0.kp.trans k1 (fun q hq hlt => by have := own_far9 h0.i.1 q (by simpa using hq); omega)).trans ks (fun q hq _ => hq)
theorem Ps9.putD (h : Ps9 w3 w B vi vd vc I D C) (u : Value) (hu : u.oneCell' = true) (hl : (D.length + 1) * 24 ≤ 140737488355328) :
    ∃ g c w', (Builtin.append_ #[64, 64] 64 #[vd, .slice (some ⟨w.heap.size, 0, none⟩) 1 1]).run Tryz.prog (w.alloc (.cells #[u] 33)) = .ok (.slice (some ⟨g, 0, none⟩) (D.length + 1) c) w' ∧
      (w'.cell? ⟨B, 1, none⟩).isSome = true ∧ w'.frozen? ⟨B, 1, none⟩ = false ∧ Ps9 w3 (w'.setCell ⟨B, 1, none⟩ (.slice (some ⟨g, 0, none⟩) (D.length + 1) c)) B vi (.slice (some ⟨g, 0, none⟩) (D.length + 1) c) vc I (D ++ [u]) C := by
  obtain ⟨g, c, w', hrun, h1, k1⟩ := run_app1_9 64 33 (.slice none 0 0) 24 Tryz.underlying64 (by kernel_rfl) rfl h.d h.kp.size u hu hl (by omega)
  obtain ⟨q1, q2, q3, q4, q5, q6⟩ := ne_idB
  have hrow : w'.heap[B]? = some (.cells #[vi, vd, vc] 70 (0, 0)) := by
    rw [k1.block B h.lt (by simpa using own_cell9 h.d h.row q5)]
    exact h.row
  have ks : Kept [B] w' (w'.setCell ⟨B, 1, none⟩ (.slice (some ⟨g, 0, none⟩) (D.length + 1) c)) := (Kept.refl [B] w').setCell (fun _ => by simp) _
  have hi := h.i.kept k1 (fun g hg => by simpa using own_types9 h.d h.i.1 q1.symm g hg)
  have hc := own_kept9 h.c k1 (fun g hg => by simpa using own_types9 h.d h.c q3 g hg)
  refine ⟨g, c, w', hrun, by rw [cell_of_row _ _ _ _ _ _ hrow]; rfl, frozen_of_row _ _ _ _ _ hrow, ?_, hi.kept ks (fun g hg => by simp only [List.mem_singleton]; rintro rfl; exact own_cell9 hi.1 hrow q4 hg), ?_, own_kept9 hc ks (fun g hg => by simp only [List.mem_singleton]; rintro rfl; exact own_cell9 hc hrow q6 hg), ?_, h.bs⟩
  · rw [heap_setCell_same w' _ 1 _ _ _ hrow]
    rfl
  · rw [List.length_append]
    exact own_kept9 h1 ks (fun g hg => by simp only [List.mem_singleton]; rintro rfl; exact own_cell9 h1 hrow q5 hg)
  · exact (h.kp.trans k1 (fun q hq hlt => by have := own_far9 h.d q (by simpa using hq); omega)).trans ks (fun q hq _ => hq)
theorem Ps9.putC (h : Ps9 w3 w B vi vd vc I D C) (u : Value) (hu : u.oneCell' = true) (hl : (C.length + 1) * 8 ≤ 140737488355328) :
    ∃ g c w', (Builtin.append_ #[68, 68] 68 #[vc, .slice (some ⟨w.heap.size, 0, none⟩) 1 1]).run Tryz.prog (w.alloc (.cells #[u] 3)) = .ok (.slice (some ⟨g, 0, none⟩) (C.length + 1) c) w' ∧
      (w'.cell? ⟨B, 2, none⟩).isSome = true ∧ w'.frozen? ⟨B, 2, none⟩ = false ∧ Ps9 w3 (w'.setCell ⟨B, 2, none⟩ (.slice (some ⟨g, 0, none⟩) (C.length + 1) c)) B vi vd (.slice (some ⟨g, 0, none⟩) (C.length + 1) c) I D (C ++ [u]) := by
  obtain ⟨g, c, w', hrun, h1, k1⟩ := run_app1_9 68 3 (.int .i64 0) 8 Tryz.underlying68 (by kernel_rfl) rfl h.c h.kp.size u hu hl (by omega)
  obtain ⟨q1, q2, q3, q4, q5, q6⟩ := ne_idB
  have hrow : w'.heap[B]? = some (.cells #[vi, vd, vc] 70 (0, 0)) := by
    rw [k1.block B h.lt (by simpa using own_cell9 h.c h.row q6)]
    exact h.row
  have ks : Kept [B] w' (w'.setCell ⟨B, 2, none⟩ (.slice (some ⟨g, 0, none⟩) (C.length + 1) c)) := (Kept.refl [B] w').setCell (fun _ => by simp) _
  have hi := h.i.kept k1 (fun g hg => by simpa using own_types9 h.c h.i.1 q2.symm g hg)
  have hd := own_kept9 h.d k1 (fun g hg => by simpa using own_types9 h.c h.d q3.symm g hg)
  refine ⟨g, c, w', hrun, by rw [cell_of_row _ _ _ _ _ _ hrow]; rfl, frozen_of_row _ _ _ _ _ hrow, ?_, hi.kept ks (fun g hg => by simp only [List.mem_singleton]; rintro rfl; exact own_cell9 hi.1 hrow q4 hg), own_kept9 hd ks (fun g hg => by simp only [List.mem_singleton]; rintro rfl; exact own_cell9 hd hrow q5 hg), ?_, ?_, h.bs⟩
  · rw [heap_setCell_same w' _ 2 _ _ _ hrow]
    rfl
  · rw [List.length_append]
    exact own_kept9 h1 ks (fun g hg => by simp only [List.mem_singleton]; rintro rfl; exact own_cell9 h1 hrow q6 hg)
  · exact (h.kp.trans k1 (fun q hq hlt => by have := own_far9 h.c q (by simpa using hq); omega)).trans ks (fun q hq _ => hq)
end

/-- The first item of an id. -/
def fst9 (L : List It9) (q : List UInt8) : It9 := (L.find? (fun x => x.id == q)).getD it0
/-- The ids that are told. -/
def ids9 (L : List It9) : List (List UInt8) := canon ((L.take 60).map (·.id))
def dat9 (L : List It9) (K : List (List UInt8)) : List Value := K.map (fun q => (fst9 L q).dv)
def cod9 (L : List It9) (K : List (List UInt8)) : List Value := K.map (fun q => .int .i64 (fst9 L q).code)
theorem canon_len : ∀ l : List (List UInt8), (canon l).length ≤ l.length := fun l => by
  unfold canon
  have h : ∀ (l R : List (List UInt8)), (l.foldl wth R).length ≤ R.length + l.length := fun l => by
    induction l with
    | nil => intro R; simp
    | cons a r ih =>
      intro R
      have h1 := ih (wth R a)
      have h2 := wth_len9 R a
      simp only [List.foldl_cons, List.length_cons]
      omega
  have := h l []
  simpa using this
theorem ids9_len (L : List It9) : (ids9 L).length ≤ 60 := by
  have := canon_len ((L.take 60).map (·.id))
  rw [List.length_map, List.length_take] at this
  unfold ids9
  omega
theorem fst9_at {L : List It9} {k : Nat} (hk : k < L.length) (h0 : ∀ j, j < k → (L.getD j it0).id ≠ (L.getD k it0).id) : fst9 L (L.getD k it0).id = L.getD k it0 := by
  unfold fst9
  have e : L.getD k it0 = L[k] := by simp [List.getElem?_eq_getElem hk]
  have : L.find? (fun x => x.id == (L.getD k it0).id) = some (L.getD k it0) := by
    rw [e, List.find?_eq_some_iff_getElem]
    refine ⟨by simp, k, hk, rfl, fun j hj => ?_⟩
    have := h0 j hj
    rw [List.getD_eq_getElem?_getD, List.getElem?_eq_getElem (by omega), e] at this
    simpa using this
  rw [this]
  rfl
end

section
open Go.RowKit
set_option linter.unusedVariables false


section
variable {P : Program} {ops : Array Oper} {Q : Exit → Act → World → Prop} {md : Region.Mode} {S : World → Prop} {late : Nat → Bool}

/-- Whatever order is picked; S stands on behind each operation that is not late. -/
def wpAnyL (P : Program) (md : Region.Mode) (ops : Array Oper) (Q : Exit → Act → World → Prop) (S : World → Prop) (late : Nat → Bool) : Nat → Array Bool → Act → World → Prop
  | 0, listed, a, w => Region.ready md ops listed = [] ∧ Q .normal a w
  | fuel + 1, listed, a, w => (Region.ready md ops listed = [] → Q .normal a w) ∧
    ∀ i ∈ Region.ready md ops listed, wpOp P ops Q i (fun a' w' => (S w → late i = false → S w') ∧ wpAnyL P md ops Q S late fuel (listed.setIfInBounds i true) a' w') a w

theorem wpAnyL_any : ∀ (fuel : Nat) (listed : Array Bool) (a : Act) (w : World), wpAnyL P md ops Q S late fuel listed a w → wpAny P md ops Q fuel listed a w
  | 0, _, _, _, h => h
  | fuel + 1, _, _, _, h => ⟨h.1, fun i hi => wpOp_mono (fun a' w' k => wpAnyL_any fuel _ a' w' k.2) (h.2 i hi)⟩

/-- What has come up came up behind all that it waits for. -/
def downB (md : Region.Mode) (ops : Array Oper) (listed : Array Bool) : Bool :=
  (List.range ops.size).all fun k => !(listed.getD k false) || match ops[k]? with
    | some o => o.after.all fun e => !(Region.binds md e) || listed.getD e.on false
    | none => true
/-- z waits for i, or for one that does. -/
def waits (md : Region.Mode) (ops : Array Oper) (i : Nat) : Nat → Nat → Bool
  | 0, _ => false
  | n + 1, z => match ops[z]? with
    | some o => o.after.any fun e => Region.binds md e && (e.on == i || waits md ops i n e.on)
    | none => false
def lateWait (md : Region.Mode) (ops : Array Oper) (late : Nat → Bool) (i : Nat) : Bool :=
  (List.range ops.size).all fun z => !(late z) || waits md ops i ops.size z

def Down (md : Region.Mode) (ops : Array Oper) (listed : Array Bool) : Prop :=
  ∀ k o, ops[k]? = some o → listed.getD k false = true → ∀ e ∈ o.after, Region.binds md e = true → listed.getD e.on false = true

theorem downB_spec {listed : Array Bool} (h : downB md ops listed = true) : Down md ops listed := by
  intro k o ho hk e he hb
  have h1 := List.all_eq_true.1 h k (List.mem_range.2 (Array.getElem?_eq_some_iff.1 ho).1)
  simp only [hk, ho, Bool.not_true, Bool.false_or] at h1
  have h2 := Array.all_eq_true_iff_forall_mem.1 h1 e he
  simpa [hb] using h2
theorem Down.set {listed : Array Bool} (h : Down md ops listed) {j : Nat} (hj : j ∈ Region.ready md ops listed) : Down md ops (listed.setIfInBounds j true) := by
  intro k o ho hk e he hb
  apply getD_set_true
  by_cases hjk : j = k
  · subst hjk
    obtain ⟨_, o', ho', hall⟩ := mem_ready.1 hj
    rw [ho] at ho'
    cases ho'
    exact hall e he hb
  · rw [getD_set_ne false hjk] at hk
    exact h k o ho hk e he hb
theorem waits_listed {listed : Array Bool} (hd : Down md ops listed) {i : Nat} : ∀ (n z : Nat) (o : Oper), ops[z]? = some o → waits md ops i n z = true → (∀ e ∈ o.after, Region.binds md e = true → listed.getD e.on false = true) → listed.getD i false = true
  | 0, z, o, ho, h, _ => by simp [waits] at h
  | n + 1, z, o, ho, h, hall => by
    simp only [waits, ho] at h
    obtain ⟨e, he, hb⟩ := Array.any_eq_true'.1 h
    simp only [Bool.and_eq_true, Bool.or_eq_true, beq_iff_eq] at hb
    have hl := hall e he hb.1
    rcases hb.2 with rfl | hw
    · exact hl
    · cases ho' : ops[e.on]? with
      | none => cases n <;> simp [waits, ho'] at hw
      | some o' => exact waits_listed hd n e.on o' ho' hw (hd e.on o' ho' hl)
theorem late_not_ready {listed : Array Bool} (hd : Down md ops listed) {i : Nat} (hi : listed.getD i true = false) (hw : lateWait md ops late i = true) {j : Nat} (hj : j ∈ Region.ready md ops listed) : late j = false := by
  obtain ⟨_, o, ho, hall⟩ := mem_ready.1 hj
  have h1 := List.all_eq_true.1 hw j (List.mem_range.2 (Array.getElem?_eq_some_iff.1 ho).1)
  cases hl : late j with
  | false => rfl
  | true =>
    rw [hl] at h1
    simp only [Bool.not_true, Bool.false_or] at h1
    have h2 := waits_listed hd _ j o ho h1 hall
    rcases Nat.lt_or_ge i listed.size with h' | h'
    · simp [h'] at hi h2; rw [hi] at h2; cases h2
    · simp [Array.getElem?_eq_none h'] at h2

theorem takeL {i : Nat} {oi : Oper} {v : Value} (hi : ops[i]? = some oi) (hsel : Region.noSelect ops = true) (hw : lateWait md ops late i = true)
    (hQ : ∀ c a w, Q (.panic c) (a.put oi.dst v) w → Q (.panic c) a w) :
    ∀ (fuel : Nat) (listed : Array Bool) (a : Act) (w : World), Down md ops listed →
      (∀ j oj, ops[j]? = some oj → j ≠ i → listed.getD j true = false → (∀ e ∈ oj.after, Region.binds md e = true → e.on ≠ i) → oi.apart ops oj = true) →
      i ∈ Region.ready md ops listed → YieldsIf P ops S oi v a → S w →
      wpAnyL P md ops Q S late fuel (listed.setIfInBounds i true) (a.put oi.dst v) w → wpAnyL P md ops Q S late (fuel + 1) listed a w
  | fuel, listed, a, w, hd, hfree, hr, hy, hS, H => by
    refine ⟨fun h => (by rw [h] at hr; cases hr), fun j hj => ?_⟩
    have hiun := (mem_ready.1 hr).1
    by_cases hji : j = i
    · subst hji; exact hy.wpOp hi hS ⟨fun h _ => h, H⟩
    · have hjr := ready_mono (i := i) hj hji
      match fuel, H with
      | 0, H => rw [H.1] at hjr; cases hjr
      | fuel + 1, H =>
        have hlj := late_not_ready hd hiun hw hj
        obtain ⟨hjun, oj, hoj, hall⟩ := mem_ready.1 hj
        have hnot : ∀ e ∈ oj.after, Region.binds md e = true → e.on ≠ i := by
          rintro e he hb rfl
          have h1 := hall e he hb
          rcases Nat.lt_or_ge e.on listed.size with h' | h'
          · simp [h'] at hiun h1; rw [hiun] at h1; cases h1
          · simp [Array.getElem?_eq_none h'] at h1
        have h2 := wpOp_putIf hoj (hfree j oj hoj hji hjun hnot) (fun cs b => Region.noSelect_spec hsel i oi cs b hi) (fun cs b => Region.noSelect_spec hsel j oj cs b hoj) hQ hy (H.2 j hjr)
        refine wpOp_mono (fun a' w' h3 => ⟨fun _ _ => h3.2.1 hS hlj, ?_⟩) h2
        refine takeL hi hsel hw hQ fuel (listed.setIfInBounds j true) a' w' (hd.set hj) (fun k ok hk hki hun hno => hfree k ok hk hki ?_ hno) (ready_mono hr (Ne.symm hji)) h3.1 (h3.2.1 hS hlj) ?_
        · by_cases hjk : j = k
          · subst hjk; exact hjun
          · rw [getD_set_ne true hjk] at hun; exact hun
        · rw [Array.setIfInBounds_comm _ _ hji]
          exact h3.2.2

/-- One that yields in whatever world. -/
theorem takeF {i : Nat} {oi : Oper} {v : Value} (hi : ops[i]? = some oi) (hsel : Region.noSelect ops = true)
    (hQ : ∀ c a w, Q (.panic c) (a.put oi.dst v) w → Q (.panic c) a w) :
    ∀ (fuel : Nat) (listed : Array Bool) (a : Act) (w : World),
      (∀ j oj, ops[j]? = some oj → j ≠ i → listed.getD j true = false → (∀ e ∈ oj.after, Region.binds md e = true → e.on ≠ i) → oi.apart ops oj = true) →
      i ∈ Region.ready md ops listed → YieldsIf P ops (fun _ => True) oi v a →
      wpAnyL P md ops Q S late fuel (listed.setIfInBounds i true) (a.put oi.dst v) w → wpAnyL P md ops Q S late (fuel + 1) listed a w
  | fuel, listed, a, w, hfree, hr, hy, H => by
    refine ⟨fun h => (by rw [h] at hr; cases hr), fun j hj => ?_⟩
    have hiun := (mem_ready.1 hr).1
    by_cases hji : j = i
    · subst hji; exact hy.wpOp hi trivial ⟨fun h _ => h, H⟩
    · have hjr := ready_mono (i := i) hj hji
      match fuel, H with
      | 0, H => rw [H.1] at hjr; cases hjr
      | fuel + 1, H =>
        obtain ⟨hjun, oj, hoj, hall⟩ := mem_ready.1 hj
        have hnot : ∀ e ∈ oj.after, Region.binds md e = true → e.on ≠ i := by
          rintro e he hb rfl
          have h1 := hall e he hb
          rcases Nat.lt_or_ge e.on listed.size with h' | h'
          · simp [h'] at hiun h1; rw [hiun] at h1; cases h1
          · simp [Array.getElem?_eq_none h'] at h1
        have h2 := wpOp_putIf hoj (hfree j oj hoj hji hjun hnot) (fun cs b => Region.noSelect_spec hsel i oi cs b hi) (fun cs b => Region.noSelect_spec hsel j oj cs b hoj) hQ hy (H.2 j hjr)
        refine wpOp_mono (fun a' w' h3 => ⟨h3.2.1, ?_⟩) h2
        refine takeF hi hsel hQ fuel (listed.setIfInBounds j true) a' w' (fun k ok hk hki hun hno => hfree k ok hk hki ?_ hno) (ready_mono hr (Ne.symm hji)) h3.1 ?_
        · by_cases hjk : j = k
          · subst hjk; exact hjun
          · rw [getD_set_ne true hjk] at hun; exact hun
        · rw [Array.setIfInBounds_comm _ _ hji]
          exact h3.2.2
theorem wpAnyL_free {i : Nat} {oi : Oper} {v : Value} {fuel : Nat} {listed : Array Bool} {a : Act} {w : World} (hi : ops[i]? = some oi)
    (hs : Region.noSelect ops = true) (hf : Region.free md ops listed i = true) (hr : (Region.ready md ops listed).contains i = true)
    (hQ : ∀ c a w, Q (.panic c) (a.put oi.dst v) w → Q (.panic c) a w) (hy : YieldsIf P ops (fun _ => True) oi v a)
    (h : wpAnyL P md ops Q S late fuel (listed.setIfInBounds i true) (a.put oi.dst v) w) : wpAnyL P md ops Q S late (fuel + 1) listed a w :=
  takeF hi hs hQ fuel listed a w (Region.free_spec hi hf) (by simpa using hr) hy h

/-- One that reads is taken first, though what it reads is written later. -/
theorem wpAnyL_take {i : Nat} {oi : Oper} {v : Value} {fuel : Nat} {listed : Array Bool} {a : Act} {w : World} (hi : ops[i]? = some oi)
    (hs : Region.noSelect ops = true) (hf : Region.free md ops listed i = true) (hr : (Region.ready md ops listed).contains i = true) (hd : downB md ops listed = true) (hw : lateWait md ops late i = true)
    (hQ : ∀ c a w, Q (.panic c) (a.put oi.dst v) w → Q (.panic c) a w) (hy : YieldsIf P ops S oi v a) (hS : S w)
    (h : wpAnyL P md ops Q S late fuel (listed.setIfInBounds i true) (a.put oi.dst v) w) : wpAnyL P md ops Q S late (fuel + 1) listed a w :=
  takeL hi hs hw hQ fuel listed a w (downB_spec hd) (Region.free_spec hi hf) (by simpa using hr) hy hS h

/-- Just one may come up. -/
theorem wpAnyL_one {i : Nat} {o : Oper} {fuel : Nat} {listed : Array Bool} {a : Act} {w : World} (hr : Region.ready md ops listed = [i]) (ho : ops[i]? = some o)
    (h : ∀ K : Act → World → Prop, Hid (∀ a' w', (S w → late i = false → S w') → wpAnyL P md ops Q S late fuel (listed.setIfInBounds i true) a' w' → K a' w') → if Region.wanted o (yielded ops a.tmps) then o.wp P a w K Q else K (a.put o.dst undef) w) :
    wpAnyL P md ops Q S late (fuel + 1) listed a w := by
  refine ⟨fun h0 => (by rw [hr] at h0; cases h0), fun j hj => ?_⟩
  rw [hr] at hj
  obtain rfl : j = i := by simpa using hj
  have h1 := h (fun a' w' => (S w → late j = false → S w') ∧ wpAnyL P md ops Q S late fuel (listed.setIfInBounds j true) a' w') (fun a' w' x y => ⟨x, y⟩)
  unfold wpOp
  simp only [ho]
  split
  · next hwt => rw [if_pos hwt] at h1; exact .inl h1
  · next hwt => rw [if_neg hwt] at h1; exact h1

/-- One of two may come up. -/
theorem wpAnyL_two {i j : Nat} {o o' : Oper} {fuel : Nat} {listed : Array Bool} {a : Act} {w : World} (hr : Region.ready md ops listed = [i, j]) (ho : ops[i]? = some o) (ho' : ops[j]? = some o')
    (h : ∀ K : Act → World → Prop, Hid (∀ a' w', (S w → late i = false → S w') → wpAnyL P md ops Q S late fuel (listed.setIfInBounds i true) a' w' → K a' w') → if Region.wanted o (yielded ops a.tmps) then o.wp P a w K Q else K (a.put o.dst undef) w)
    (h' : ∀ K : Act → World → Prop, Hid (∀ a' w', (S w → late j = false → S w') → wpAnyL P md ops Q S late fuel (listed.setIfInBounds j true) a' w' → K a' w') → if Region.wanted o' (yielded ops a.tmps) then o'.wp P a w K Q else K (a.put o'.dst undef) w) :
    wpAnyL P md ops Q S late (fuel + 1) listed a w := by
  refine ⟨fun h0 => (by rw [hr] at h0; cases h0), fun k hk => ?_⟩
  rw [hr] at hk
  have key : ∀ (k : Nat) (o : Oper), ops[k]? = some o → (∀ K : Act → World → Prop, Hid (∀ a' w', (S w → late k = false → S w') → wpAnyL P md ops Q S late fuel (listed.setIfInBounds k true) a' w' → K a' w') → if Region.wanted o (yielded ops a.tmps) then o.wp P a w K Q else K (a.put o.dst undef) w) →
      wpOp P ops Q k (fun a' w' => (S w → late k = false → S w') ∧ wpAnyL P md ops Q S late fuel (listed.setIfInBounds k true) a' w') a w := fun k o ho h => by
    have h1 := h (fun a' w' => (S w → late k = false → S w') ∧ wpAnyL P md ops Q S late fuel (listed.setIfInBounds k true) a' w') (fun a' w' x y => ⟨x, y⟩)
    unfold wpOp
    simp only [ho]
    split
    · next hwt => rw [if_pos hwt] at h1; exact .inl h1
    · next hwt => rw [if_neg hwt] at h1; exact h1
  simp only [List.mem_cons, List.not_mem_nil, or_false] at hk
  rcases hk with rfl | rfl
  · exact key _ _ ho h
  · exact key _ _ ho' h'

theorem wpAnyL_done {listed : Array Bool} {a : Act} {w : World} (hr : Region.ready md ops listed = []) (h : Q .normal a w) : ∀ fuel, wpAnyL P md ops Q S late fuel listed a w
  | 0 => ⟨hr, h⟩
  | _ + 1 => ⟨fun _ => h, by rw [hr]; simp⟩

theorem wp_region_late {id : Nat} {a : Act} {w : World} (S : World → Prop) (late : Nat → Bool) (hm : P.follows .mixedOrders = true)
    (h : wpAnyL P .any ops Q S late ops.size (Array.replicate ops.size false) a w.drew) : (Code.region id ops true).wp P Q a w :=
  wp_region_any hm (wpAnyL_any _ _ _ _ h)

end
end

end Go.Proofs.YtngaimahhgmciabGreatDoor
