import Derived.Test.YtmoaaimjgdbelaaGreatRefp
import Derived.LaidEql
namespace Go.Proofs.YtmoaaimjgdbelaaGreat
section
open Go.RowKit Dsk
set_option linter.unusedVariables false
set_option linter.unusedSimpArgs false

theorem upd_upd {α : Type} (f : Nat → α) (k : Nat) (a b : α) : upd (upd f k a) k b = upd f k b := by
  funext j
  unfold upd
  by_cases h : j = k <;> simp [h]

section
variable {w w1 : World} {q : Nat} {S : Ds} {A : Nat → Nat} {o : Lab} {nv bv tv sv : Value}

theorem lim_ext2 {o : Lab} {w w' w2 : World} {l : Nat} (hl : ∀ b, o b ≠ 0 → b < w.heap.size) (h1 : w.heap.size ≤ w'.heap.size) (h2 : w'.heap.size ≤ w2.heap.size) : ∀ b, o.ext w w' l b ≠ 0 → b < w2.heap.size := by
  intro b hb
  unfold Lab.ext at hb
  split at hb
  · have := hl b hb; omega
  · split at hb
    · omega
    · exact absurd rfl hb

/-- t.Shown = a new row. -/
theorem RDx.thShown {k : Nat} (h : RDx w q S A o nv bv tv sv) (hk : k ∈ S.lives) {v : Value} {xs : By} (hB : Cg w w1 v xs) :
    RDx (w1.setCell ⟨A k, 1, none⟩ v) q { S with th := upd S.th k { S.th k with shown := xs } } A (o.ext w w1 (k + 2)) nv bv tv sv ∧ Keep (· = A k) w (w1.setCell ⟨A k, 1, none⟩ v) ∧ (∃ u, w1.cell? ⟨A k, 1, none⟩ = some u) ∧ w1.frozen? ⟨A k, 1, none⟩ = false := by
  obtain ⟨s1, h1, r1, R1, ht⟩ := h.th k hk
  have hK1 : Keep (fun _ => False) w w1 := Keep.ofNone hB.keep
  have ht1 := ht.keep hK1 (fun _ _ h => h)
  have hks : Keep (· = A k) w1 (w1.setCell ⟨A k, 1, none⟩ v) := (Keep.refl (· = A k) w1).setCell (p := ⟨A k, 1, none⟩) (fun _ => rfl) _
  have hK : Keep (· = A k) w (w1.setCell ⟨A k, 1, none⟩ v) := (Keep.ofNone hB.keep).trans hks (fun i e _ => e)
  have old : ∀ b, b < w.heap.size → o.ext w w1 (k + 2) b = o b := fun b hb => Lab.ext_old hb
  have nB : ∀ {u : Value} {n : Nat} {ys : By}, OwnB w1 u n ys → ∀ g, u.ownBlock = some g → ¬ g = A k := fun hu g hg e => hu.ne ht1.cells (by decide) (by rw [hg, e])
  have hvB := OwnB.of hB.row
  refine ⟨RDx.thing (k := k) h (hK.mono (fun i e _ => by show o i = k + 2; rw [show i = A k from e]; exact ht.lb)) old (lim_ext2 h.lim hB.keep.size hks.size) ⟨s1, v, r1, R1, ?_, ht1.safe.keep hks (nB ht1.safe), hvB.keep hks (nB hvB), ht1.eq, own_keeps ht1.row hks (fun g hg e => own_ne ht1.row ht1.cells (by decide) (by rw [hg, e])), fun p hp => (ht1.data p hp).keep hks (fun g hg e => ?_), (old _ ht.lt).trans ht.lb, fun g hg => (old g (ht.safe.lt hg)).trans (ht.ls g hg), fun g hg => Lab.ext_new (hB.new g hg) (hvB.lt hg), fun g hg => (old g (ht.row.lt g hg).2).trans (ht.lr g hg), fun p hp g hg => (old g ((ht.data p hp).lt hg)).trans (ht.ld p hp g hg)⟩, hK, ⟨h1, by rw [cell_of_row w1 _ 1 _ _ _ ht1.cells]; rfl⟩, frozen_of_row _ _ _ _ _ ht1.cells⟩
  · rw [heap_setCell_same _ (A k) 1 _ _ _ ht1.cells]; simp
  · have hd : OwnB w1 p.2 (chD p.1).length (chD p.1) := ht1.data p hp
    exact nB hd g hg e

/-- t.Row = append(t.Row, c). -/
theorem RDx.thRow {k : Nat} (h : RDx w q S A o nv bv tv sv) (hk : k ∈ S.lives) (hb : (S.th k).row.length ≤ 536870912) (c : Ch) (dv : Value) (hd : ChD w (c, dv)) (hdl : ∀ g, dv.ownBlock = some g → o g = k + 2) (h1c : dv.oneCell' = true) :
    ∃ ro n rc, w.cell? ⟨A k, 2, none⟩ = some (.slice ro n rc) ∧ ∃ g c' w5, (Builtin.append_ #[86, 86] 86 #[.slice ro n rc, .slice (some ⟨w.heap.size, 0, none⟩) 1 1]).run Tryz.prog (w.alloc (.cells #[.bool (isCut c), .int .i64 c.place, dv] 155)) = .ok (.slice (some ⟨g, 0, none⟩) (n + 1) c') w5 ∧ w5.cell? ⟨A k, 2, none⟩ = some (.slice ro n rc) ∧ w5.frozen? ⟨A k, 2, none⟩ = false ∧
      RDx (w5.setCell ⟨A k, 2, none⟩ (.slice (some ⟨g, 0, none⟩) (n + 1) c')) q { S with th := upd S.th k { S.th k with row := (S.th k).row ++ [c] } } A (o.ext w w5 (k + 2)) nv bv tv sv ∧ Keep (fun b => o b = k + 2) w (w5.setCell ⟨A k, 2, none⟩ (.slice (some ⟨g, 0, none⟩) (n + 1) c')) := by
  obtain ⟨s1, h1, r1, R1, ht⟩ := h.th k hk
  have hRl : R1.length = (S.th k).row.length := by rw [← ht.eq]; simp
  obtain ⟨ro, rc, rfl, _⟩ := own_shape ht.row
  obtain ⟨n, hn⟩ : ∃ n, R1.length = n := ⟨_, rfl⟩
  rw [hn] at ht
  have hr := ht.row
  rw [hn] at hr
  obtain ⟨g, c', w5, e1, e2, e3, e4, e5⟩ := run_app (P := Tryz.prog) w 86 86 155 Tryz.underlying86 Tryz.infoChange rfl (by decide) _ n _ hr [.bool (isCut c), .int .i64 c.place, dv] rfl (fun z hz => by simp only [List.mem_cons, List.not_mem_nil, or_false] at hz; rcases hz with rfl | rfl | rfl; rfl; rfl; exact h1c) (by unfold maxLen; omega) (by omega)
  have hK5 := e3 (fun k => (Value.slice ro n rc).ownBlock = some k) (fun _ e => e)
  have nA : ¬ (Value.slice ro n rc).ownBlock = some (A k) := own_ne ht.row ht.cells (by decide)
  have hc5 := hK5.heapOf ht.cells nA
  have old : ∀ b, b < w.heap.size → o.ext w w5 (k + 2) b = o b := fun b hb => Lab.ext_old hb
  have hks : Keep (· = A k) w5 (w5.setCell ⟨A k, 2, none⟩ (.slice (some ⟨g, 0, none⟩) (n + 1) c')) := (Keep.refl (· = A k) w5).setCell (p := ⟨A k, 2, none⟩) (fun _ => rfl) _
  have nRow : ∀ {u : Value} {m : Nat} {ys : By}, OwnB w u m ys → ∀ g, u.ownBlock = some g → ¬ (Value.slice ro n rc).ownBlock = some g := fun hu g hg e => OwnB.two ht.row hu (by decide) g e hg
  have nB : ∀ {u : Value} {m : Nat} {ys : By}, OwnB w5 u m ys → ∀ g, u.ownBlock = some g → ¬ g = A k := fun hu g hg e => hu.ne hc5 (by decide) (by rw [hg, e])
  have k5 : ∀ {u : Value} {m : Nat} {ys : By}, OwnB w u m ys → OwnB (w5.setCell ⟨A k, 2, none⟩ (.slice (some ⟨g, 0, none⟩) (n + 1) c')) u m ys := fun hu => (hu.keep hK5 (nRow hu)).keep hks (nB (hu.keep hK5 (nRow hu)))
  have kD : ∀ p : Ch × Value, ChD w p → ChD (w5.setCell ⟨A k, 2, none⟩ (.slice (some ⟨g, 0, none⟩) (n + 1) c')) p := fun p hp => k5 (show OwnB w p.2 (chD p.1).length (chD p.1) from hp)
  have e2' : w5.ownsRow 0 155 3 (.slice (some ⟨g, 0, none⟩) (n + 1) c') (R1 ++ [(c, dv)]).length (chsV (R1 ++ [(c, dv)])) := by
    rw [chsV_snoc, List.length_append, hn]; exact e2
  have hKw : Keep (fun b => o b = k + 2) w (w5.setCell ⟨A k, 2, none⟩ (.slice (some ⟨g, 0, none⟩) (n + 1) c')) := (hK5.mono (G := fun b => o b = k + 2) (fun i e _ => ht.lr i e)).trans hks (fun i e _ => by show o i = k + 2; rw [show i = A k from e]; exact ht.lb)
  refine ⟨ro, n, rc, by rw [cell_of_row w _ 2 _ _ _ ht.cells]; rfl, g, c', w5, e1, by rw [cell_of_row w5 _ 2 _ _ _ hc5]; rfl, frozen_of_row _ _ _ _ _ hc5, RDx.thing (k := k) h hKw old (lim_ext2 h.lim hK5.size hks.size) ⟨s1, h1, .slice (some ⟨g, 0, none⟩) (n + 1) c', R1 ++ [(c, dv)], ?_, k5 ht.safe, k5 ht.shown, by simp [ht.eq], own_keeps e2' hks (fun g' hg' e => own_ne e2' hc5 (by decide) (by rw [hg', e])), fun p hp => ?_, (old _ ht.lt).trans ht.lb, fun g hg => (old g (ht.safe.lt hg)).trans (ht.ls g hg), fun g hg => (old g (ht.shown.lt hg)).trans (ht.lh g hg), fun g' hg' => ?_, fun p hp g' hg' => ?_⟩, hKw⟩
  · rw [heap_setCell_same _ (A k) 2 _ _ _ hc5]; simp
  · rcases List.mem_append.1 hp with hp | hp
    · exact kD p (ht.data p hp)
    · rw [List.mem_singleton.1 hp]; exact kD _ hd
  · simp only [Value.ownBlock, Option.some.injEq] at hg'
    subst hg'
    rcases e4 with e | e
    · rw [old g (hr.lt g e.symm).2]; exact ht.lr g e.symm
    · exact Lab.ext_new e e5
  · rcases List.mem_append.1 hp with hp | hp
    · exact (old g' ((ht.data p hp).lt hg')).trans (ht.ld p hp g' hg')
    · rw [List.mem_singleton.1 hp] at hg'
      exact (old g' (hd.lt hg')).trans (hdl g' hg')

/-- t.Safe = a new row, t.Row = nil. -/
theorem RDx.thSafe {k : Nat} (h : RDx w q S A o nv bv tv sv) (hk : k ∈ S.lives) {v : Value} {xs : By} (hB : Cg w w1 v xs) :
    RDx ((w1.setCell ⟨A k, 0, none⟩ v).setCell ⟨A k, 2, none⟩ (.slice none 0 0)) q { S with th := upd S.th k ⟨xs, [], (S.th k).shown⟩ } A (o.ext w w1 (k + 2)) nv bv tv sv ∧ Keep (· = A k) w ((w1.setCell ⟨A k, 0, none⟩ v).setCell ⟨A k, 2, none⟩ (.slice none 0 0)) ∧ (∃ u, w1.cell? ⟨A k, 0, none⟩ = some u) ∧ w1.frozen? ⟨A k, 0, none⟩ = false ∧ (∃ u, w1.cell? ⟨A k, 2, none⟩ = some u) ∧ w1.frozen? ⟨A k, 2, none⟩ = false := by
  obtain ⟨s1, h1, r1, R1, ht⟩ := h.th k hk
  have hK1 : Keep (fun _ => False) w w1 := Keep.ofNone hB.keep
  have ht1 := ht.keep hK1 (fun _ _ h => h)
  have hks : Keep (· = A k) w1 ((w1.setCell ⟨A k, 0, none⟩ v).setCell ⟨A k, 2, none⟩ (.slice none 0 0)) := ((Keep.refl (· = A k) w1).setCell (p := ⟨A k, 0, none⟩) (fun _ => rfl) _).setCell (p := ⟨A k, 2, none⟩) (fun _ => rfl) _
  have hK : Keep (· = A k) w ((w1.setCell ⟨A k, 0, none⟩ v).setCell ⟨A k, 2, none⟩ (.slice none 0 0)) := (Keep.ofNone hB.keep).trans hks (fun i e _ => e)
  have old : ∀ b, b < w.heap.size → o.ext w w1 (k + 2) b = o b := fun b hb => Lab.ext_old hb
  have nB : ∀ {u : Value} {n : Nat} {ys : By}, OwnB w1 u n ys → ∀ g, u.ownBlock = some g → ¬ g = A k := fun hu g hg e => hu.ne ht1.cells (by decide) (by rw [hg, e])
  have hvB := OwnB.of hB.row
  refine ⟨RDx.thing (k := k) h (hK.mono (fun i e _ => by show o i = k + 2; rw [show i = A k from e]; exact ht.lb)) old (lim_ext2 h.lim hB.keep.size hks.size) ⟨v, h1, .slice none 0 0, [], ?_, hvB.keep hks (nB hvB), ht1.shown.keep hks (nB ht1.shown), rfl, World.ownsRow_nil _ _ _ _, by simp, (old _ ht.lt).trans ht.lb, fun g hg => Lab.ext_new (hB.new g hg) (hvB.lt hg), fun g hg => (old g (ht.shown.lt hg)).trans (ht.lh g hg), by simp [Value.ownBlock], by simp⟩, hK, ⟨s1, by rw [cell_of_row w1 _ 0 _ _ _ ht1.cells]; rfl⟩, frozen_of_row _ _ _ _ _ ht1.cells, ⟨r1, by rw [cell_of_row w1 _ 2 _ _ _ ht1.cells]; rfl⟩, frozen_of_row _ _ _ _ _ ht1.cells⟩
  rw [heap_setCell_same _ (A k) 2 _ _ _ (heap_setCell_same _ (A k) 0 _ _ _ ht1.cells)]; simp

theorem RDx.thShape {k : Nat} (h : RDx w q S A o nv bv tv sv) (hk : k ∈ S.lives) : ∃ so sc ho hc, OwnB w (.slice so (S.th k).safe.length sc) (S.th k).safe.length (S.th k).safe ∧ OwnB w (.slice ho (S.th k).shown.length hc) (S.th k).shown.length (S.th k).shown ∧ w.cell? ⟨A k, 0, none⟩ = some (.slice so (S.th k).safe.length sc) ∧ w.cell? ⟨A k, 1, none⟩ = some (.slice ho (S.th k).shown.length hc) ∧ o (A k) = k + 2 ∧ A k < w.heap.size := by
  obtain ⟨s1, h1, r1, R1, ht⟩ := h.th k hk
  obtain ⟨so, sc, e1, _⟩ := ht.safe.shape
  obtain ⟨ho, hc, e2, _⟩ := ht.shown.shape
  subst e1 e2
  exact ⟨so, sc, ho, hc, ht.safe, ht.shown, by rw [cell_of_row w _ 0 _ _ _ ht.cells]; rfl, by rw [cell_of_row w _ 1 _ _ _ ht.cells]; rfl, ht.lb, ht.lt⟩
end
end

section
open Go.RowKit Dsk
set_option linter.unusedVariables false
set_option linter.unusedSimpArgs false

theorem Tryz.infoPtr : (Tryz.prog.info? 85).map (fun i => (i.zero, i.size, i.bytes)) = some (some (.pointer none), 1, 8) := by kernel_rfl
def ptrs (A : Nat → Nat) (K : List Nat) : List Value := K.map (fun k => .pointer (some ⟨A k, 0, none⟩))
theorem ptrs_snoc (A : Nat → Nat) (K : List Nat) (k : Nat) : ptrs A (K ++ [k]) = ptrs A K ++ [.pointer (some ⟨A k, 0, none⟩)] := by simp [ptrs]
theorem ptrs_congr {A A' : Nat → Nat} {K : List Nat} (h : ∀ k ∈ K, A' k = A k) : ptrs A' K = ptrs A K := by
  unfold ptrs
  exact List.map_congr_left (fun k hk => by rw [h k hk])
theorem ptr_cell {w : World} {A : Nat → Nat} {K : List Nat} {vo : Option Addr} {n vc : Nat} (h : w.ownsRow 0 85 1 (.slice vo n vc) n (ptrs A K)) {i k : Nat} (hi : K[i]? = some k) (hn : i < n) :
    ∃ g, vo = some ⟨g, 0, none⟩ ∧ w.cell? ⟨g, i, none⟩ = some (.pointer (some ⟨A k, 0, none⟩)) := by
  obtain ⟨g, hg⟩ : ∃ g, vo = some ⟨g, 0, none⟩ := by
    rcases h.2 with ⟨e, e2⟩ | ⟨g, cap, cur, e, _⟩
    · omega
    · injection e with e _ _; exact ⟨g, e⟩
  subst hg
  refine ⟨g, rfl, ?_⟩
  have := h.cells (g := g) rfl i _ (show (ptrs A K)[i]? = some _ by simp [ptrs, hi]; rfl)
  rw [add0] at this
  exact this

theorem Tryz.sizeThing (W : World) : (sizeOf 88).run Tryz.prog W = .ok 3 W := by kernel_rfl
theorem Tryz.eqlPtrSame (W : World) (a : Addr) : (binOp .eql 85 (.pointer (some a)) (.pointer (some a))).run Tryz.prog W = .ok (.bool true) W := by
  have h : ∀ d : Nat, (Op.equalIn (d + 1) 85 (.pointer (some a)) (.pointer (some a))).run Tryz.prog W = .ok true W := fun d => by simp [Op.equalIn, run_underlying Tryz.underlying85, Tryz.sizeThing, run_sameAddr_same]
  simp only [binOp]
  simp [Op.equal, Op.maxDepth, h 9999]
theorem Tryz.eqlPtrOther (W : World) {a b : Addr} {ca cb : Array Value} {ta tb : TypeId} (hne : a ≠ b) (ha : W.heap[a.block]? = some (.cells ca ta (0, 0))) (hb : W.heap[b.block]? = some (.cells cb tb (0, 0))) : (binOp .eql 85 (.pointer (some a)) (.pointer (some b))).run Tryz.prog W = .ok (.bool false) W := by
  have h : ∀ d : Nat, (Op.equalIn (d + 1) 85 (.pointer (some a)) (.pointer (some b))).run Tryz.prog W = .ok false W := fun d => by simp [Op.equalIn, run_underlying Tryz.underlying85, Tryz.sizeThing, run_sameAddr_other W hne ha hb]
  simp only [binOp]
  simp [Op.equal, Op.maxDepth, h 9999]

set_option maxHeartbeats 1600000 in
set_option maxRecDepth 100000 in
/-- What `other` answers of a pointer. -/
theorem rother_walk (oo mo : Option Addr) (n oc mc : Nat) (A B : Nat → Nat) (K : List Nat) (t : Option Addr) (r : Option Addr) (w : World) (hK : K.length = n) (hn : n ≤ 1073741824)
    (hr : (r = none ∧ ∀ j ∈ K, t ≠ some ⟨A j, 0, none⟩) ∨ ∃ k, k ∈ K ∧ t = some ⟨A k, 0, none⟩ ∧ r = some ⟨B k, 0, none⟩ ∧ ∀ j ∈ K, A j = A k → j = k)
    (ho : w.ownsRow 0 85 1 (.slice oo n oc) n (ptrs A K)) (hm : w.ownsRow 0 85 1 (.slice mo n mc) n (ptrs B K)) (hbl : ∀ j ∈ K, ∃ cs, w.heap[A j]? = some (.cells cs 88 (0, 0))) (hbt : ∀ a, t = some a → ∃ cs T, w.heap[a.block]? = some (.cells cs T (0, 0))) :
    Calls Tryz.prog 80 #[.slice oo n oc, .slice mo n mc, .pointer t] w fun e w' => e = .returned (.pointer r) ∧ w' = w := by
  have HK := hide hK
  have HR := hide hr
  have HO := hide ho
  have HM := hide hm
  have HBL := hide hbl
  have HBT := hide hbt
  clear hK hr ho hm hbl hbt
  go_enter Tryz.func80, Tryz.ntmps80
  go_wp2
  go_loopw [7] (fun i wr => ∃ k : Nat, k ≤ n ∧ i = .int .i64 k ∧ wr = w ∧ Hid (∀ j x, j < k → K[j]? = some x → t ≠ some ⟨A x, 0, none⟩)) (fun i wr => n - (intOf i).toNat)
  case atStart => exact ⟨0, by omega, rfl, rfl, hide (fun j x hj => absurd hj (Nat.not_lt_zero _))⟩
  case round =>
    obtain ⟨i, hi, rfl, hwr, HN⟩ := hrel
    obtain rfl := hwr.symm
    by_cases hlt : i < n
    · obtain ⟨x, hx⟩ : ∃ x, K[i]? = some x := ⟨K[i]'(by rw [HK.out]; exact hlt), List.getElem?_eq_getElem _⟩
      obtain ⟨g, rfl, hc⟩ := ptr_cell HO.out hx hlt
      by_cases e : t = some ⟨A x, 0, none⟩
      · rcases HR.out with ⟨_, h2⟩ | ⟨k, h1, h2, h3, h4⟩
        · exact absurd e (h2 x (List.mem_of_getElem? hx))
        · have hxk : x = k := by
            rw [h2] at e
            injection e with e
            injection e with e
            exact h4 x (List.mem_of_getElem? hx) e.symm
          subst hxk
          obtain ⟨g2, rfl, hc2⟩ := ptr_cell HM.out hx hlt
          have HRR : Hid (r = some ⟨B x, 0, none⟩) := hide h3
          subst e
          have hq := Tryz.eqlPtrSame w ⟨A x, 0, none⟩
          generalize A x = ax at *
          generalize B x = bx at *
          clear h1 h2 h3 h4 hx
          go_wp2
          go_ret
          exact ⟨by rw [HRR.out]; rfl, rfl⟩
      · have HN2 : Hid (∀ j y, j < i + 1 → K[j]? = some y → t ≠ some ⟨A y, 0, none⟩) := hide (fun j y hj hy => by
          by_cases hji : j < i
          · exact HN.out j y hji hy
          · obtain rfl : j = i := by omega
            rw [hx] at hy
            injection hy with hy
            rw [← hy]; exact e)
        obtain ⟨cs1, hb1⟩ := HBL.out x (List.mem_of_getElem? hx)
        generalize A x = ax at *
        have e1 : ¬ some (⟨ax, 0, none⟩ : Addr) = t := fun h => e h.symm
        clear hx HN
        cases t with
        | none =>
          clear e e1 hb1
          go_wp2
          go_roundw
          case rel => exact ⟨i + 1, by omega, by go_num, trivial, HN2⟩
          case measure => simp [intOf]; omega
        | some ad =>
          have e2 : ¬ (⟨ax, 0, none⟩ : Addr) = ad := fun h => e1 (by rw [h])
          obtain ⟨cs2, T2, hb2⟩ := HBT.out ad rfl
          have hq := Tryz.eqlPtrOther w e2 hb1 hb2
          clear e e1 e2 hb1 hb2
          go_wp2
          go_roundw
          case rel => exact ⟨i + 1, by omega, by go_num, trivial, HN2⟩
          case measure => simp [intOf]; omega
    · have HE : Hid (r = none) := hide (by
        rcases HR.out with ⟨h1, _⟩ | ⟨k, h1, h2, _, _⟩
        · exact h1
        · obtain ⟨j, hj, e⟩ := List.getElem_of_mem h1
          exact absurd h2 (HN.out j k (by have := HK.out; omega) (by rw [List.getElem?_eq_getElem hj, e])))
      go_wp2
      go_ret
      exact ⟨by rw [HE.out]; rfl, rfl⟩

section
variable {w w' w1 : World} {q : Nat} {S : Ds} {A : Nat → Nat} {o : Lab} {nv bv tv sv : Value}

/-- Other labels of new blocks. -/
theorem RDx.lift {o' : Lab} (h : RDx w q S A o nv bv tv sv) (hk : Kept [] w w') (ho : ∀ b, b < w.heap.size → o' b = o b) (hl : ∀ b, o' b ≠ 0 → b < w'.heap.size) : RDx w' q S A o' nv bv tv sv := by
  have hK : Keep (fun _ => False) w w' := Keep.ofNone hk
  refine ⟨hK.heapOf h.cells (fun h => h), own_keeps h.now hK (fun _ _ h => h), own_keeps h.before hK (fun _ _ h => h), own_keeps h.turns hK (fun _ _ h => h), own_keeps h.told hK (fun _ _ h => h), fun k hk' => ?_, (ho q h.qlt).trans h.lq, fun g hg => (ho g (h.now.lt g hg).2).trans (h.ln g hg), fun g hg => (ho g (h.before.lt g hg).2).trans (h.lb g hg), fun g hg => (ho g (h.turns.lt g hg).2).trans (h.lt g hg), fun g hg => (ho g (h.told.lt g hg).2).trans (h.ls g hg), hl, h.pl⟩
  have h1 := (h.th k hk').relab (o' := o') (l' := k + 2) (fun g hg e => by rw [ho g hg]; exact e)
  obtain ⟨a, b, c, d, h2⟩ := h1
  exact ⟨a, b, c, d, hK.heapOf h2.cells (fun h => h), h2.safe.keep hK (fun _ _ h => h), h2.shown.keep hK (fun _ _ h => h), h2.eq, own_keeps h2.row hK (fun _ _ h => h), fun p hp => (h2.data p hp).keep hK (fun _ _ h => h), h2.lb, h2.ls, h2.lh, h2.lr, h2.ld⟩
theorem Rg.lift {o' : Lab} {l b : Nat} {t : Th} (h : Rg w o l b t) (hk : Kept [] w w') (ho : ∀ b, b < w.heap.size → o' b = o b) : Rg w' o' l b t := by
  have hK : Keep (fun _ => False) w w' := Keep.ofNone hk
  obtain ⟨a, b, c, d, h2⟩ := h.relab (o' := o') (l' := l) (fun g hg e => by rw [ho g hg]; exact e)
  exact ⟨a, b, c, d, hK.heapOf h2.cells (fun h => h), h2.safe.keep hK (fun _ _ h => h), h2.shown.keep hK (fun _ _ h => h), h2.eq, own_keeps h2.row hK (fun _ _ h => h), fun p hp => (h2.data p hp).keep hK (fun _ _ h => h), h2.lb, h2.ls, h2.lh, h2.lr, h2.ld⟩

/-- One change more of a thing that is being made. -/
theorem RTh.addRow {l b : Nat} {s1 h1 : Value} {ro : Option Addr} {n rc : Nat} {R1 : List (Ch × Value)} {t : Th} (ht : RTh w o l b s1 h1 (.slice ro n rc) R1 t) (hn : R1.length = n) (hb : n ≤ 536870912) (c : Ch) (dv : Value) (hd : ChD w (c, dv)) (hdl : ∀ g, dv.ownBlock = some g → o g = l) (h1c : dv.oneCell' = true) :
    ∃ g c' w5, (Builtin.append_ #[86, 86] 86 #[.slice ro n rc, .slice (some ⟨w.heap.size, 0, none⟩) 1 1]).run Tryz.prog (w.alloc (.cells #[.bool (isCut c), .int .i64 c.place, dv] 155)) = .ok (.slice (some ⟨g, 0, none⟩) (n + 1) c') w5 ∧ w5.cell? ⟨b, 2, none⟩ = some (.slice ro n rc) ∧ w5.frozen? ⟨b, 2, none⟩ = false ∧
      RTh (w5.setCell ⟨b, 2, none⟩ (.slice (some ⟨g, 0, none⟩) (n + 1) c')) (o.ext w w5 l) l b s1 h1 (.slice (some ⟨g, 0, none⟩) (n + 1) c') (R1 ++ [(c, dv)]) { t with row := t.row ++ [c] } ∧ Keep (fun x => x = b ∨ (Value.slice ro n rc).ownBlock = some x) w (w5.setCell ⟨b, 2, none⟩ (.slice (some ⟨g, 0, none⟩) (n + 1) c')) ∧ w5.heap.size = (w5.setCell ⟨b, 2, none⟩ (.slice (some ⟨g, 0, none⟩) (n + 1) c')).heap.size ∧ (some g = (Value.slice ro n rc).ownBlock ∨ w.heap.size ≤ g) := by
  have hr := ht.row
  rw [hn] at hr
  obtain ⟨g, c', w5, e1, e2, e3, e4, e5⟩ := run_app (P := Tryz.prog) w 86 86 155 Tryz.underlying86 Tryz.infoChange rfl (by decide) _ n _ hr [.bool (isCut c), .int .i64 c.place, dv] rfl (fun z hz => by simp only [List.mem_cons, List.not_mem_nil, or_false] at hz; rcases hz with rfl | rfl | rfl; rfl; rfl; exact h1c) (by unfold maxLen; omega) (by omega)
  have hK5 := e3 (fun k => (Value.slice ro n rc).ownBlock = some k) (fun _ e => e)
  have nA : ¬ (Value.slice ro n rc).ownBlock = some b := own_ne ht.row ht.cells (by decide)
  have hc5 := hK5.heapOf ht.cells nA
  have old : ∀ b, b < w.heap.size → o.ext w w5 l b = o b := fun b hb => Lab.ext_old hb
  have hks : Keep (· = b) w5 (w5.setCell ⟨b, 2, none⟩ (.slice (some ⟨g, 0, none⟩) (n + 1) c')) := (Keep.refl (· = b) w5).setCell (p := ⟨b, 2, none⟩) (fun _ => rfl) _
  have nRow : ∀ {u : Value} {m : Nat} {ys : By}, OwnB w u m ys → ∀ g, u.ownBlock = some g → ¬ (Value.slice ro n rc).ownBlock = some g := fun hu g hg e => OwnB.two ht.row hu (by decide) g e hg
  have nB : ∀ {u : Value} {m : Nat} {ys : By}, OwnB w5 u m ys → ∀ g, u.ownBlock = some g → ¬ g = b := fun hu g hg e => hu.ne hc5 (by decide) (by rw [hg, e])
  have k5 : ∀ {u : Value} {m : Nat} {ys : By}, OwnB w u m ys → OwnB (w5.setCell ⟨b, 2, none⟩ (.slice (some ⟨g, 0, none⟩) (n + 1) c')) u m ys := fun hu => (hu.keep hK5 (nRow hu)).keep hks (nB (hu.keep hK5 (nRow hu)))
  have e2' : w5.ownsRow 0 155 3 (.slice (some ⟨g, 0, none⟩) (n + 1) c') (R1 ++ [(c, dv)]).length (chsV (R1 ++ [(c, dv)])) := by
    rw [chsV_snoc, List.length_append, hn]; exact e2
  refine ⟨g, c', w5, e1, by rw [cell_of_row w5 _ 2 _ _ _ hc5]; rfl, frozen_of_row _ _ _ _ _ hc5, ⟨?_, k5 ht.safe, k5 ht.shown, by simp [ht.eq], own_keeps e2' hks (fun g' hg' e => own_ne e2' hc5 (by decide) (by rw [hg', e])), fun p hp => ?_, (old _ ht.lt).trans ht.lb, fun g hg => (old g (ht.safe.lt hg)).trans (ht.ls g hg), fun g hg => (old g (ht.shown.lt hg)).trans (ht.lh g hg), fun g' hg' => ?_, fun p hp g' hg' => ?_⟩, (hK5.mono (fun i e _ => .inr e)).trans hks (fun i e _ => .inl e), by simp [World.setCell], e4⟩
  · rw [heap_setCell_same _ b 2 _ _ _ hc5]; simp
  · rcases List.mem_append.1 hp with hp | hp
    · exact k5 (show OwnB w p.2 (chD p.1).length (chD p.1) from ht.data p hp)
    · rw [List.mem_singleton.1 hp]; exact k5 hd
  · simp only [Value.ownBlock, Option.some.injEq] at hg'
    subst hg'
    rcases e4 with e | e
    · rw [old g (hr.lt g e.symm).2]; exact ht.lr g e.symm
    · exact Lab.ext_new e e5
  · rcases List.mem_append.1 hp with hp | hp
    · exact (old g' ((ht.data p hp).lt hg')).trans (ht.ld p hp g' hg')
    · rw [List.mem_singleton.1 hp] at hg'
      exact (old g' (hd.lt hg')).trans (hdl g' hg')
end

/-- A row of pointers takes one more. -/
theorem ptrs_app {wr : World} {A : Nat → Nat} {K : List Nat} {fo : Option Addr} {m fc : Nat} (h : wr.ownsRow 0 85 1 (.slice fo m fc) m (ptrs A K)) (hb : m ≤ 1073741824) (b : Nat) :
    ∃ g c w5, (Builtin.append_ #[128, 128] 128 #[.slice fo m fc, .slice (some ⟨wr.heap.size, 0, none⟩) 1 1]).run Tryz.prog (wr.alloc (.cells #[.pointer (some ⟨b, 0, none⟩)] 85)) = .ok (.slice (some ⟨g, 0, none⟩) (m + 1) c) w5 ∧ w5.ownsRow 0 85 1 (.slice (some ⟨g, 0, none⟩) (m + 1) c) (m + 1) (ptrs A K ++ [.pointer (some ⟨b, 0, none⟩)]) ∧ Keep (fun k => (Value.slice fo m fc).ownBlock = some k) wr w5 ∧ (some g = (Value.slice fo m fc).ownBlock ∨ wr.heap.size ≤ g) ∧ g < w5.heap.size := by
  obtain ⟨g, c, w', e1, e2, e3, e4, e5⟩ := run_app (P := Tryz.prog) wr 128 128 85 Tryz.underlying128 Tryz.infoPtr rfl (by decide) _ m _ h [.pointer (some ⟨b, 0, none⟩)] rfl (fun z hz => by simp only [List.mem_singleton] at hz; rw [hz]; rfl) (by unfold maxLen; omega) (by omega)
  exact ⟨g, c, w', e1, e2, e3 _ (fun _ e => e), e4, e5⟩

/-- A twin on its way: the new disk has no names yet; old and made are the things and their twins. -/
structure Tws (w wr : World) (X : Nat) (S : Ds) (A B : Nat → Nat) (K : List Nat) (oN : Lab) (n : Nat) (ov mv sv : Value) : Prop where
  rd : RDx wr X { S with shown := [], safe := [], row := [] } B oN (.slice none 0 0) (.slice none 0 0) (.slice none 0 0) sv
  len : K.length = n
  old : wr.ownsRow 0 85 1 ov n (ptrs A K)
  made : wr.ownsRow 0 85 1 mv n (ptrs B K)
  apart : ∀ g, ov.ownBlock = some g → mv.ownBlock ≠ some g
  th : ∀ k ∈ K, Rg wr oN (k + 2) (B k) (S.th k)
  keep : Kept [] w wr
  newO : ∀ g, ov.ownBlock = some g → w.heap.size ≤ g ∧ oN g = 0
  newM : ∀ g, mv.ownBlock = some g → w.heap.size ≤ g ∧ oN g = 0
  lab : ∀ b, oN b ≠ 0 → w.heap.size ≤ b
  sub : ∀ k ∈ K, k ∈ S.lives
  nd : K.Nodup
theorem RDx.any {w : World} {X : Nat} {S : Ds} {B B' : Nat → Nat} {o : Lab} {a b c d : Value} (h : RDx w X { S with shown := [], safe := [], row := [] } B o a b c d) : RDx w X { S with shown := [], safe := [], row := [] } B' o a b c d :=
  ⟨h.cells, h.now, h.before, h.turns, h.told, fun k hk => by simp [Ds.lives, Nm.ids, madeN] at hk, h.lq, h.ln, h.lb, h.lt, h.ls, h.lim, h.pl⟩

/-- The twin of a thing is made (wl): old and made take it. -/
theorem Tws.push {w wr wl : World} {X : Nat} {S : Ds} {A B : Nat → Nat} {K : List Nat} {oN o1 : Lab} {n : Nat} {oo mo : Option Addr} {oc mc : Nat} {sv : Value} (h : Tws w wr X S A B K oN n (.slice oo n oc) (.slice mo n mc) sv) {k bk : Nat} (hk : k ∉ K) (hkl : k ∈ S.lives) (hn : n ≤ 536870912) (hkw : Kept [] wr wl) (ho : ∀ b, b < wr.heap.size → o1 b = oN b) (hl : ∀ b, o1 b ≠ 0 → b < wl.heap.size) (ht : Rg wl o1 (k + 2) bk (S.th k)) :
    ∃ g1 c1 w1, (Builtin.append_ #[128, 128] 128 #[.slice oo n oc, .slice (some ⟨wl.heap.size, 0, none⟩) 1 1]).run Tryz.prog (wl.alloc (.cells #[.pointer (some ⟨A k, 0, none⟩)] 85)) = .ok (.slice (some ⟨g1, 0, none⟩) (n + 1) c1) w1 ∧
    ∃ g2 c2 w2, (Builtin.append_ #[128, 128] 128 #[.slice mo n mc, .slice (some ⟨w1.heap.size, 0, none⟩) 1 1]).run Tryz.prog (w1.alloc (.cells #[.pointer (some ⟨bk, 0, none⟩)] 85)) = .ok (.slice (some ⟨g2, 0, none⟩) (n + 1) c2) w2 ∧
    Tws w w2 X S A (upd B k bk) (K ++ [k]) o1 (n + 1) (.slice (some ⟨g1, 0, none⟩) (n + 1) c1) (.slice (some ⟨g2, 0, none⟩) (n + 1) c2) sv := by
  have hKl : Keep (fun _ => False) wr wl := Keep.ofNone hkw
  have hol := own_keeps h.old hKl (fun _ _ h => h)
  have hml := own_keeps h.made hKl (fun _ _ h => h)
  obtain ⟨g1, c1, w1, e1, e2, e3, e4, e5⟩ := ptrs_app hol (by omega) (A k)
  have hm1 := own_keeps hml e3 (fun g hg e => h.apart g e hg)
  obtain ⟨g2, c2, w2, f1, f2, f3, f4, f5⟩ := ptrs_app hm1 (by omega) bk
  have hszl := hkw.size
  have hsz1 := e3.size
  have hsz2 := f3.size
  have hol2 : ∀ g, (Value.slice oo n oc).ownBlock = some g → g < wr.heap.size := fun g hg => (h.old.lt g hg).2
  have hml2 : ∀ g, (Value.slice mo n mc).ownBlock = some g → g < wr.heap.size := fun g hg => (h.made.lt g hg).2
  have hoF : ∀ g, (Value.slice oo n oc).ownBlock = some g → o1 g = 0 := fun g hg => by rw [ho g (hol2 g hg)]; exact (h.newO g hg).2
  have hmF : ∀ g, (Value.slice mo n mc).ownBlock = some g → o1 g = 0 := fun g hg => by rw [ho g (hml2 g hg)]; exact (h.newM g hg).2
  have hnew : ∀ b, wl.heap.size ≤ b → o1 b = 0 := fun b hb => Classical.byContradiction fun hn => by have := hl b hn; omega
  have hrd := h.rd.lift hkw ho hl
  have hrd2 := (hrd.keep e3 (fun b hb e => hb (hoF b e))).keep f3 (fun b hb e => hb (hmF b e))
  have hKw : Kept [] w w2 := by
    have k0 := h.keep.trans hkw (by simp)
    refine ⟨f3.os.trans (e3.os.trans k0.os), f3.tape.trans (e3.tape.trans k0.tape), f3.output.trans (e3.output.trans k0.output), Nat.le_trans k0.size (Nat.le_trans hsz1 hsz2), fun b hb _ => ?_⟩
    have hb1 : b < wl.heap.size := Nat.lt_of_lt_of_le hb k0.size
    rw [f3.block b (by omega) (fun e => by have := (h.newM b e).1; omega), e3.block b hb1 (fun e => by have := (h.newO b e).1; omega)]
    exact k0.block b hb (by simp)
  refine ⟨g1, c1, w1, e1, g2, c2, w2, f1, ⟨hrd2.any, by simp [h.len], ?_, ?_, ?_, ?_, hKw, ?_, ?_, ?_, ?_, ?_⟩⟩
  · rw [ptrs_snoc]
    exact own_keeps e2 f3 (fun g hg e => by
      simp only [Value.ownBlock, Option.some.injEq] at hg
      subst hg
      rcases e4 with e' | e'
      · exact h.apart g1 e'.symm e
      · have := hml2 g1 e; omega)
  · rw [ptrs_snoc, upd_same, ptrs_congr (A := B) (fun j hj => upd_other _ _ (fun e => hk (by rw [← e]; exact hj)))]
    exact f2
  · intro g hg hg2
    simp only [Value.ownBlock, Option.some.injEq] at hg hg2
    subst hg
    subst hg2
    rcases e4 with e' | e'
    · rcases f4 with f' | f'
      · exact h.apart _ e'.symm f'.symm
      · have := hol2 _ e'.symm; omega
    · rcases f4 with f' | f'
      · have := hml2 _ f'.symm; omega
      · omega
  · intro j hj
    rcases List.mem_append.1 hj with hj | hj
    · rw [upd_other _ _ (fun e => hk (by rw [← e]; exact hj))]
      have t1 := (h.th j hj).lift hkw ho
      exact (t1.keep e3 (fun b hb e => by rw [hoF b e] at hb; omega)).keep f3 (fun b hb e => by rw [hmF b e] at hb; omega)
    · rw [List.mem_singleton.1 hj, upd_same]
      exact (ht.keep e3 (fun b hb e => by rw [hoF b e] at hb; omega)).keep f3 (fun b hb e => by rw [hmF b e] at hb; omega)
  · intro g hg
    simp only [Value.ownBlock, Option.some.injEq] at hg
    subst hg
    have := h.keep.size
    rcases e4 with e' | e'
    · exact ⟨(h.newO _ e'.symm).1, hoF _ e'.symm⟩
    · exact ⟨by omega, hnew _ e'⟩
  · intro g hg
    simp only [Value.ownBlock, Option.some.injEq] at hg
    subst hg
    have := h.keep.size
    rcases f4 with f' | f'
    · exact ⟨(h.newM _ f'.symm).1, hmF _ f'.symm⟩
    · exact ⟨by omega, hnew _ (by omega)⟩
  · intro b hb
    by_cases hlt : b < wr.heap.size
    · rw [ho b hlt] at hb; exact h.lab b hb
    · have := h.keep.size; omega
  · intro j hj
    rcases List.mem_append.1 hj with hj | hj
    · exact h.sub j hj
    · rw [List.mem_singleton.1 hj]; exact hkl
  · rw [List.nodup_append]
    exact ⟨h.nd, by simp, fun a ha b hb e => hk (by rw [List.mem_singleton.1 hb] at e; rw [← e]; exact ha)⟩
end

end Go.Proofs.YtmoaaimjgdbelaaGreat
