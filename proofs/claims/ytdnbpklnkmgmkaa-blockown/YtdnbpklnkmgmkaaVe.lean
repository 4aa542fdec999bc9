/-
  The map of places: how it lies in memory; one place more.
-/
import Derived.Test.YtdnbpklnkmgmkaaVd
namespace Go.Proofs.Ytdnbpklnkmgmkaa
open Go.RowKit
open Go.ChangeMaps (setBlock)
set_option linter.unusedVariables false
set_option linter.unusedSimpArgs false

/-- Places as numbers. -/
def ints (l : List Nat) : List Int := l.map (fun n : Nat => (n : Int))

/-- A row stays where its own block does. -/
theorem ownsInts_same {w w' : World} {base : Nat} {e : TypeId} {q : IntKind} {v : Value} {zs : List Int} (h : w.ownsInts base e q v zs) (hs : ∀ g, v.ownBlock = some g → w'.heap[g]? = w.heap[g]?) : w'.ownsInts base e q v zs := by
  refine ⟨⟨h.1.1, ?_⟩, h.2⟩
  rcases h.1.2 with h1 | ⟨g, cap, cur, rfl, h2, h3, h4⟩
  · exact .inl h1
  · exact .inr ⟨g, cap, cur, rfl, h2, (hs g rfl).trans h3, h4⟩
theorem ownsInts_block {w : World} {base : Nat} {e : TypeId} {q : IntKind} {v : Value} {zs : List Int} (h : w.ownsInts base e q v zs) (g : Nat) (hg : v.ownBlock = some g) : base ≤ g ∧ g < w.heap.size ∧ ∃ cur, w.heap[g]? = some (.cells cur e (0, 0)) := by
  rcases h.1.2 with ⟨rfl, _⟩ | ⟨g', cap, cur, rfl, h2, h3, _⟩
  · cases hg
  · simp only [Value.ownBlock, Option.some.injEq] at hg
    subst hg
    exact ⟨h2, (Array.getElem?_eq_some_iff.1 h3).1, cur, h3⟩

/-- The map in block M: of each three bytes the places ahead of at. -/
structure Pm (w : World) (M : Nat) (data : List UInt8) (at_ : Nat) (es : Array MapEntry) (clock : Nat) : Prop where
  row : w.heap[M]? = some (.map es clock)
  stamped : MapKept.Stamped es clock
  vals : ∀ x ∈ es.toList, ∃ a b c : UInt8, x.key = k3 a b c ∧ w.ownsInts (M + 1) 3 .i64 x.val (ints (Prs.pls data a b c at_))
  apart : ∀ x ∈ es.toList, ∀ y ∈ es.toList, x.key ≠ y.key → x.val.ownBlock = none ∨ x.val.ownBlock ≠ y.val.ownBlock
  full : ∀ a b c, Prs.pls data a b c at_ ≠ [] → ∃ x ∈ es.toList, x.key = k3 a b c

section
variable {w : World} {M : Nat} {data : List UInt8} {at_ : Nat} {es : Array MapEntry} {clock : Nat}

theorem Pm.lt (h : Pm w M data at_ es clock) : M < w.heap.size := (Array.getElem?_eq_some_iff.1 h.row).1
theorem Pm.keys (h : Pm w M data at_ es clock) : ∀ x ∈ es.toList, ∃ l, keyOf Try.prog 100 x.key = some l := fun x hx => by
  obtain ⟨a, b, c, e, _⟩ := h.vals x hx
  rw [e]; exact k3_key a b c
/-- It stays where its block and the rows of numbers do. -/
theorem Pm.same {w' : World} (h : Pm w M data at_ es clock) (hM : w'.heap[M]? = w.heap[M]?) (hr : ∀ (g : Nat) (cur : Array Value), w.heap[g]? = some (.cells cur 3 (0, 0)) → w'.heap[g]? = w.heap[g]?) : Pm w' M data at_ es clock :=
  ⟨hM.trans h.row, h.stamped, fun x hx => by
    obtain ⟨a, b, c, e, ho⟩ := h.vals x hx
    exact ⟨a, b, c, e, ownsInts_same ho (fun g hg => by obtain ⟨_, _, cur, hc⟩ := ownsInts_block ho g hg; exact hr g cur hc)⟩, h.apart, h.full⟩
theorem Pm.kept {w' : World} (h : Pm w M data at_ es clock) (hk : Kept [] w w') : Pm w' M data at_ es clock :=
  h.same (hk.block M h.lt (by simp)) (fun g cur hg => hk.block g (Array.getElem?_eq_some_iff.1 hg).1 (by simp))
theorem Pm.ch {w' : World} {G : Nat} (h : Pm w M data at_ es clock) (hc : Ch 5 G w w') (hG : ∃ cs fr, w.heap[G]? = some (.cells cs 87 fr)) : Pm w' M data at_ es clock := by
  obtain ⟨cs, fr, hG⟩ := hG
  refine h.same (hc.block M h.lt ?_ (fun cur e => ?_)) (fun g cur hg => hc.block g (Array.getElem?_eq_some_iff.1 hg).1 ?_ (fun cur' e => ?_))
  · rintro rfl; rw [h.row] at hG; cases hG
  · rw [h.row] at e; cases e
  · rintro rfl
    rw [hg] at hG
    injection hG with hG
    injection hG with _ hG _
    cases hG
  · rw [hg] at e
    injection e with e
    injection e with _ e _
    cases e
theorem Pm.start (w : World) (data : List UInt8) : Pm (w.alloc (.map #[] 0)) w.heap.size data 0 #[] 0 :=
  ⟨(MapKept.heap_alloc w _).1, MapKept.stamped_empty 0, by simp, by simp, by simp [Prs.pls]⟩

/-- What m[k] is. -/
theorem Pm.look (h : Pm w M data at_ es clock) (a b c : UInt8) : ∃ v, (Instr.lookup 89 (.map (some M)) (k3 a b c) false).run Try.prog w = .ok v w ∧ w.ownsInts (M + 1) 3 .i64 v (ints (Prs.pls data a b c at_)) := by
  rcases look_run h.row h.keys a b c with ⟨h1, h2⟩ | ⟨j, e0, h1, h2, h3⟩
  · refine ⟨_, h1, ?_⟩
    have : Prs.pls data a b c at_ = [] := Classical.byContradiction fun hne => by
      obtain ⟨x, hx, hk⟩ := h.full a b c hne
      exact h2 x hx hk
    rw [this]
    exact World.ownsInts_nil _ _ _ _
  · obtain ⟨a', b', c', e, ho⟩ := h.vals e0 (List.mem_of_getElem? h1)
    rw [h2] at e
    obtain ⟨rfl, rfl, rfl⟩ := k3_inj e
    exact ⟨_, h3, ho⟩

theorem Pm.finish {w3 : World} {v0 v' : Value} {a0 b0 c0 : UInt8} {es' : Array MapEntry} {clock' : Nat} (h : Pm w M data at_ es clock) (hhere : Prs.here data a0 b0 c0 at_ = true)
    (hM3 : M < w3.heap.size) (hg : ∀ i, i < w.heap.size → i ≠ M → v0.ownBlock ≠ some i → w3.heap[i]? = w.heap[i]?)
    (hown : w3.ownsInts (M + 1) 3 .i64 v' (ints (Prs.pls data a0 b0 c0 at_ ++ [at_])))
    (hloc : v'.ownBlock = v0.ownBlock ∨ ∃ g, v'.ownBlock = some g ∧ w.heap.size ≤ g)
    (hv0 : ∀ x ∈ es.toList, x.key ≠ k3 a0 b0 c0 → x.val.ownBlock = none ∨ x.val.ownBlock ≠ v0.ownBlock)
    (hst : MapKept.Stamped es' clock') (m1 : ∀ x ∈ es'.toList, (x ∈ es.toList ∧ x.key ≠ k3 a0 b0 c0) ∨ (x.key = k3 a0 b0 c0 ∧ x.val = v')) (m2 : ∀ x ∈ es.toList, x.key ≠ k3 a0 b0 c0 → x ∈ es'.toList) (m3 : ∃ x ∈ es'.toList, x.key = k3 a0 b0 c0) :
    Pm (setBlock w3 M (.map es' clock')) M data (at_ + 1) es' clock' := by
  have hpl : ∀ a b c, k3 a b c ≠ k3 a0 b0 c0 → Prs.pls data a b c (at_ + 1) = Prs.pls data a b c at_ := fun a b c hne => by
    rw [Prs.pls_succ, if_neg, List.append_nil]
    rw [Prs.here_iff]
    rintro ⟨_, rfl, rfl, rfl⟩
    obtain ⟨_, e1, e2, e3⟩ := (Prs.here_iff _ _ _ _ _).1 hhere
    rw [e1, e2, e3] at hne
    exact hne rfl
  have hp0 : Prs.pls data a0 b0 c0 (at_ + 1) = Prs.pls data a0 b0 c0 at_ ++ [at_] := by rw [Prs.pls_succ, if_pos hhere]
  have hrow : (setBlock w3 M (.map es' clock')).heap[M]? = some (.map es' clock') := by simp [setBlock, hM3]
  have hoth : ∀ i, i ≠ M → (setBlock w3 M (.map es' clock')).heap[i]? = w3.heap[i]? := fun i hi => by
    show (w3.heap.setIfInBounds M _)[i]? = _
    rw [Array.getElem?_setIfInBounds_ne (by exact fun e => hi e.symm)]
  have apart0 : ∀ x ∈ es.toList, x.key ≠ k3 a0 b0 c0 → x.val.ownBlock = none ∨ x.val.ownBlock ≠ v'.ownBlock := fun x hx hne => by
    rcases hloc with h1 | ⟨g, h1, h2⟩
    · rw [h1]; exact hv0 x hx hne
    · cases hx' : x.val.ownBlock with
      | none => exact .inl rfl
      | some gx =>
        obtain ⟨a, b, c, _, ho⟩ := h.vals x hx
        have := (ownsInts_block ho gx hx').2.1
        rw [h1]
        exact .inr (fun e => by injection e with e; omega)
  refine ⟨hrow, hst, fun x hx => ?_, fun x hx y hy hne => ?_, fun a b c hne => ?_⟩
  · rcases m1 x hx with ⟨hxe, hk⟩ | ⟨hk, hv⟩
    · obtain ⟨a, b, c, e, ho⟩ := h.vals x hxe
      refine ⟨a, b, c, e, ?_⟩
      rw [hpl a b c (by rw [← e]; exact hk)]
      refine ownsInts_same ho (fun g hg' => ?_)
      obtain ⟨h1, h2, _⟩ := ownsInts_block ho g hg'
      rw [hoth g (by omega)]
      refine hg g h2 (by omega) (fun e2 => ?_)
      rcases hv0 x hxe hk with h3 | h3
      · rw [h3] at hg'; cases hg'
      · rw [hg', e2] at h3; exact h3 rfl
    · refine ⟨a0, b0, c0, hk, ?_⟩
      rw [hv, hp0]
      refine ownsInts_same hown (fun g hg' => ?_)
      have := (ownsInts_block hown g hg').1
      exact hoth g (by omega)
  · rcases m1 x hx with ⟨hx0, hxk⟩ | ⟨hxk, hxv⟩ <;> rcases m1 y hy with ⟨hy0, hyk⟩ | ⟨hyk, hyv⟩
    · exact h.apart x hx0 y hy0 hne
    · rw [hyv]; exact apart0 x hx0 hxk
    · rw [hxv]
      rcases apart0 y hy0 hyk with h1 | h1
      · cases hv' : v'.ownBlock with
        | none => exact .inl rfl
        | some g => rw [h1]; exact .inr (by simp)
      · exact .inr (fun e => h1 e.symm)
    · exact absurd (hxk.trans hyk.symm) hne
  · by_cases hk : k3 a b c = k3 a0 b0 c0
    · obtain ⟨rfl, rfl, rfl⟩ := k3_inj hk
      exact m3
    · rw [hpl a b c hk] at hne
      obtain ⟨x, hx, e⟩ := h.full a b c hne
      exact ⟨x, m2 x hx (by rw [e]; exact hk), e⟩

/-- p[key] = append(p[key], at): its three runs. -/
theorem Pm.adds (h : Pm w M data at_ es clock) (h3 : at_ + 3 ≤ data.length) (hmax : data.length ≤ 4096) (a0 b0 c0 : UInt8) (ha : data.getD at_ 0 = a0) (hb : data.getD (at_ + 1) 0 = b0) (hc : data.getD (at_ + 2) 0 = c0) :
    ∃ bo n bc st w2 v' w3 w4, (Instr.mapEntry 89 (.map (some M)) (k3 a0 b0 c0)).run Try.prog (w.alloc (.cells #[.int .i64 at_] 3)) = .ok (.tuple #[.slice bo n bc, goInt st]) w2 ∧
      (Builtin.append_ #[98, 98] 98 #[.slice bo n bc, .slice (some ⟨w.heap.size, 0, none⟩) 1 1]).run Try.prog w2 = .ok v' w3 ∧
      (Instr.entryStore 89 (.map (some M)) (goInt st) v').run Try.prog w3 = .ok () w4 ∧ (∃ es' clock', Pm w4 M data (at_ + 1) es' clock') ∧ Ch 3 M w w4 ∧ Below M w w4 := by
  have hhere : Prs.here data a0 b0 c0 at_ = true := (Prs.here_iff _ _ _ _ _).2 ⟨h3, ha, hb, hc⟩
  have hk1 : Kept [] w (w.alloc (.cells #[.int .i64 at_] 3)) := (Kept.refl [] w).alloc _
  have h1 := h.kept hk1
  have hcell : ∀ j u, [Value.int .i64 at_][j]? = some u → (w.alloc (.cells #[.int .i64 at_] 3)).cell? ((⟨w.heap.size, 0, none⟩ : Addr).add j) = some u := cell_one_new _ _ _
  have hsz1 : (w.alloc (.cells #[.int .i64 at_] 3)).heap.size = w.heap.size + 1 := by simp
  have hMlt := h.lt
  generalize w.alloc (.cells #[.int .i64 at_] 3) = w1 at hk1 h1 hcell hsz1 ⊢
  obtain ⟨i0, hi, hz0, hz1, hz2⟩ := info_parts Try.infoInt
  -- the append, in whatever world parts from w1 in the map alone
  have app : ∀ (w2 : World) (v0 : Value), (∀ i, i ≠ M → w2.heap[i]? = w1.heap[i]?) → w2.heap.size = w1.heap.size → w1.ownsInts (M + 1) 3 .i64 v0 (ints (Prs.pls data a0 b0 c0 at_)) →
      ∃ v' w3, (Builtin.append_ #[98, 98] 98 #[v0, .slice (some ⟨w.heap.size, 0, none⟩) 1 1]).run Try.prog w2 = .ok v' w3 ∧ w3.ownsInts (M + 1) 3 .i64 v' (ints (Prs.pls data a0 b0 c0 at_ ++ [at_])) ∧ w2.grownBy w3 v0.ownBlock ∧ (v'.ownBlock = v0.ownBlock ∨ v'.ownBlock = some w2.heap.size) := by
    intro w2 v0 hs hsz ho
    have ho2 : w2.ownsInts (M + 1) 3 .i64 v0 (ints (Prs.pls data a0 b0 c0 at_)) := ownsInts_same ho (fun g hg => hs g (by have := (ownsInts_block ho g hg).1; omega))
    have hl := Prs.pls_len data a0 b0 c0 at_
    have hlen : (ints (Prs.pls data a0 b0 c0 at_)).length = (Prs.pls data a0 b0 c0 at_).length := by simp [ints]
    obtain ⟨v', w3, hrun, h4, h5, _, h7⟩ := run_append_own_at (P := Try.prog) w2 (M + 1) 98 98 3 i0 (.int .i64 0) 1 8 Try.underlying98 hi hz0 hz1 hz2 rfl (by decide) v0 _ _ ho2.1 ⟨w.heap.size, 0, none⟩ 1 1 [.int .i64 at_] rfl
      (fun j u hj => by
        have := hcell j u hj
        rw [← this]
        exact World.cell?_of_block (hs _ (by cases j <;> simp [Addr.add] <;> omega)))
      (ints_oneCell .i64 [(at_ : Int)]) (by unfold maxLen; omega) (by omega) (by omega)
    refine ⟨v', w3, hrun, ?_, h5, h7⟩
    have := ho2.appended h4 (WalkArith.wf_i64 (by omega))
    simpa [ints] using this
  have fin : ∀ (w2 w3 : World) (v0 v' : Value) (es1 es' : Array MapEntry) (cl1 cl' : Nat), w2 = setBlock w1 M (.map es1 cl1) → w1.ownsInts (M + 1) 3 .i64 v0 (ints (Prs.pls data a0 b0 c0 at_)) → w3.ownsInts (M + 1) 3 .i64 v' (ints (Prs.pls data a0 b0 c0 at_ ++ [at_])) → w2.grownBy w3 v0.ownBlock → (v'.ownBlock = v0.ownBlock ∨ v'.ownBlock = some w2.heap.size) →
      (∀ x ∈ es.toList, x.key ≠ k3 a0 b0 c0 → x.val.ownBlock = none ∨ x.val.ownBlock ≠ v0.ownBlock) → MapKept.Stamped es' cl' → (∀ x ∈ es'.toList, (x ∈ es.toList ∧ x.key ≠ k3 a0 b0 c0) ∨ (x.key = k3 a0 b0 c0 ∧ x.val = v')) → (∀ x ∈ es.toList, x.key ≠ k3 a0 b0 c0 → x ∈ es'.toList) → (∃ x ∈ es'.toList, x.key = k3 a0 b0 c0) →
      Pm (setBlock w3 M (.map es' cl')) M data (at_ + 1) es' cl' ∧ Ch 3 M w (setBlock w3 M (.map es' cl')) ∧ Below M w (setBlock w3 M (.map es' cl')) ∧ w3.heap[M]? = some (.map es1 cl1) := by
    intro w2 w3 v0 v' es1 es' cl1 cl' hw2 ho hown hg hloc hv0 hst m1 m2 m3
    have hM1 : M < w1.heap.size := h1.lt
    have hs2 : ∀ i, i ≠ M → w2.heap[i]? = w1.heap[i]? := fun i hi => by
      rw [hw2]
      show (w1.heap.setIfInBounds M _)[i]? = _
      rw [Array.getElem?_setIfInBounds_ne (by exact fun e => hi e.symm)]
    have hsz : w2.heap.size = w1.heap.size := by rw [hw2]; simp [setBlock]
    have hMr : w2.heap[M]? = some (.map es1 cl1) := by rw [hw2]; simp [setBlock, hM1]
    have hMo : v0.ownBlock ≠ some M := fun e => by have := (ownsInts_block ho M e).1; omega
    have hM3 : w3.heap[M]? = some (.map es1 cl1) := (hg.block M (by omega) (fun e => hMo e.symm)).trans hMr
    have hMl3 : M < w3.heap.size := (Array.getElem?_eq_some_iff.1 hM3).1
    have hoth3 : ∀ i, i < w1.heap.size → i ≠ M → v0.ownBlock ≠ some i → w3.heap[i]? = w1.heap[i]? := fun i hi hne hv => (hg.block i (by omega) (fun e => hv e.symm)).trans (hs2 i hne)
    have hoth4 : ∀ i, i ≠ M → (setBlock w3 M (.map es' cl')).heap[i]? = w3.heap[i]? := fun i hi => by
      show (w3.heap.setIfInBounds M _)[i]? = _
      rw [Array.getElem?_setIfInBounds_ne (by exact fun e => hi e.symm)]
    have hos : (setBlock w3 M (.map es' cl')).os = w.os := by show w3.os = w.os; rw [hg.os, hw2]; exact hk1.os
    have htp : (setBlock w3 M (.map es' cl')).tape = w.tape := by show w3.tape = w.tape; rw [hg.tape, hw2]; exact hk1.tape
    have hou : (setBlock w3 M (.map es' cl')).output = w.output := by show w3.output = w.output; rw [hg.output, hw2]; exact hk1.output
    have hsz4 : w.heap.size ≤ (setBlock w3 M (.map es' cl')).heap.size := by
      have := hg.size
      have e : (setBlock w3 M (.map es' cl')).heap.size = w3.heap.size := by simp [setBlock]
      rw [e]; omega
    refine ⟨h1.finish hhere hMl3 hoth3 hown (hloc.imp id (fun e => ⟨_, e, by omega⟩)) hv0 hst m1 m2 m3, ⟨hos, htp, hou, hsz4, fun i hi hne hnt => ?_⟩, ⟨hos, htp, hou, hsz4, fun i hi => ?_⟩, hM3⟩
    · have e1 := hk1.block i hi (by simp)
      rw [hoth4 i hne, hoth3 i (by omega) hne (fun e => ?_), e1]
      obtain ⟨_, _, cur, hc⟩ := ownsInts_block ho i e
      rw [e1] at hc
      exact hnt cur hc
    · rw [hoth4 i (by omega), hoth3 i (by omega) (by omega) (fun e => by have := (ownsInts_block ho i e).1; omega), hk1.block i (by omega) (by simp)]
  by_cases hex : ∃ x ∈ es.toList, x.key = k3 a0 b0 c0
  · obtain ⟨x, hx, hxk⟩ := hex
    obtain ⟨j1, hj1, hxe⟩ := List.getElem_of_mem hx
    obtain ⟨j, e0, hj, hk, hrun, hst⟩ := entry_old h1.row h1.stamped h1.keys a0 b0 c0 (j0 := j1) (e1 := x) (by rw [List.getElem?_eq_getElem hj1, hxe]) hxk
    obtain ⟨a', b', c', e, ho⟩ := h1.vals e0 (List.mem_of_getElem? hj)
    rw [hk] at e
    obtain ⟨rfl, rfl, rfl⟩ := k3_inj e
    have hshape : ∃ bo n bc, e0.val = .slice bo n bc := by
      rcases ho.1.2 with ⟨e, _⟩ | ⟨g, cap, cur, e, _⟩
      · exact ⟨_, _, _, e⟩
      · exact ⟨_, _, _, e⟩
    obtain ⟨bo, n, bc, hv0⟩ := hshape
    obtain ⟨v', w3, happ, hown, hg, hloc⟩ := app (setBlock w1 M (.map es clock)) e0.val (fun i hi => by show (w1.heap.setIfInBounds M _)[i]? = _; rw [Array.getElem?_setIfInBounds_ne (by exact fun e => hi e.symm)]) (by simp [setBlock]) ho
    have hset : (es.modify j (fun e => { e with val := v' })).toList = es.toList.set j { e0 with val := v' } := by
      rw [Array.toList_modify, ChangeMaps.modify_eq_set _ _ _ _ hj]
    have hpw : es.toList.Pairwise (fun x y => x.key ≠ y.key) := ((MapKept.stamped_iff es clock).1 h1.stamped).2.2
    have hjl : j < es.toList.length := (List.getElem?_eq_some_iff.1 hj).1
    have he0 : es.toList[j] = e0 := (List.getElem?_eq_some_iff.1 hj).2
    have hkd : ∀ (i : Nat) (hi : i < es.toList.length), i ≠ j → es.toList[i].key ≠ k3 a0 b0 c0 := fun i hi hne => by
      rw [← hk, ← he0]
      rcases Nat.lt_or_ge i j with h' | h'
      · exact List.pairwise_iff_getElem.1 hpw i j hi hjl h'
      · exact fun e => List.pairwise_iff_getElem.1 hpw j i hjl hi (by omega) e.symm
    obtain ⟨f1, f2, f3, f4⟩ := fin _ w3 e0.val v' es (es.modify j (fun e => { e with val := v' })) clock clock rfl ho hown hg hloc (fun x hx hne => h1.apart x hx e0 (List.mem_of_getElem? hj) (by rw [hk]; exact hne))
      (MapKept.stamped_modify h1.stamped _ _ (fun _ _ => rfl) (fun _ _ _ => rfl))
      (fun x hx => by
        rw [hset] at hx
        obtain ⟨i, hi, e⟩ := List.getElem_of_mem hx
        rw [List.length_set] at hi
        by_cases hij : i = j
        · subst hij
          rw [List.getElem_set_self] at e
          subst e
          exact .inr ⟨hk, rfl⟩
        · rw [List.getElem_set_ne (fun e => hij e.symm)] at e
          subst e
          exact .inl ⟨List.getElem_mem _, hkd i hi hij⟩)
      (fun x hx hne => by
        rw [hset]
        obtain ⟨i, hi, e⟩ := List.getElem_of_mem hx
        have hij : j ≠ i := by rintro rfl; rw [he0] at e; subst e; exact hne hk
        have : (es.toList.set j { e0 with val := v' })[i]'(by rw [List.length_set]; exact hi) = x := by rw [List.getElem_set_ne hij]; exact e
        rw [← this]
        exact List.getElem_mem _)
      ⟨{ e0 with val := v' }, by rw [hset]; exact List.mem_set hjl _, hk⟩
    rw [hv0] at hrun happ
    exact ⟨bo, n, bc, _, _, v', w3, _, hrun, happ, hst w3 v' f4, ⟨_, _, f1⟩, f2, f3⟩
  · have hno : ∀ x ∈ es.toList, x.key ≠ k3 a0 b0 c0 := fun x hx e => hex ⟨x, hx, e⟩
    have hnil : Prs.pls data a0 b0 c0 at_ = [] := Classical.byContradiction fun hne => hex (h1.full a0 b0 c0 hne)
    obtain ⟨hrun, hst⟩ := entry_new h1.row h1.stamped h1.keys a0 b0 c0 hno
    have ho : w1.ownsInts (M + 1) 3 .i64 (.slice none 0 0) (ints (Prs.pls data a0 b0 c0 at_)) := by rw [hnil]; exact World.ownsInts_nil _ _ _ _
    obtain ⟨v', w3, happ, hown, hg, hloc⟩ := app (setBlock w1 M (.map (es.push ⟨k3 a0 b0 c0, .slice none 0 0, clock⟩) (clock + 1))) (.slice none 0 0) (fun i hi => by show (w1.heap.setIfInBounds M _)[i]? = _; rw [Array.getElem?_setIfInBounds_ne (by exact fun e => hi e.symm)]) (by simp [setBlock]) ho
    obtain ⟨f1, f2, f3, f4⟩ := fin _ w3 (.slice none 0 0) v' _ (es.push ⟨k3 a0 b0 c0, v', clock⟩) _ (clock + 1) rfl ho hown hg hloc (fun x hx hne => by cases x.val.ownBlock <;> simp [Value.ownBlock]) (MapKept.stamped_push h1.stamped hno)
      (fun x hx => by
        rw [Array.toList_push, List.mem_append] at hx
        rcases hx with hx | hx
        · exact .inl ⟨hx, hno x hx⟩
        · simp only [List.mem_singleton] at hx
          subst hx
          exact .inr ⟨rfl, rfl⟩)
      (fun x hx _ => by rw [Array.toList_push]; exact List.mem_append_left _ hx)
      ⟨⟨k3 a0 b0 c0, v', clock⟩, by rw [Array.toList_push]; simp, rfl⟩
    exact ⟨none, 0, 0, _, _, v', w3, _, hrun, happ, hst w3 v' f4, ⟨_, _, f1⟩, f2, f3⟩
end

end Go.Proofs.Ytdnbpklnkmgmkaa
