/-
  The folders of a walk: one id more.
-/
import Derived.Test.YtngaimahhgmciabGreatDoorK9hv
import Derived.Maps.AppendAt
namespace Go.Proofs.YtngaimahhgmciabGreatDoor
open Go.RowKit Go.Lib Go.Sort
open Go.ChangeMaps (setBlock)
open Go.WideElems (findIdx_born findIdx_arr modify_last set_self)
set_option linter.unusedVariables false
set_option linter.unusedSimpArgs false

/-- The folders of an id. -/
def fget (F : List (List UInt8 × List (List UInt8))) (q : List UInt8) : List (List UInt8) := ((F.find? (fun p => p.1 == q)).map (·.2)).getD []

theorem fget_at {F : List (List UInt8 × List (List UInt8))} (hn : (F.map (·.1)).Nodup) {j : Nat} {q : List UInt8} {l : List (List UInt8)} (h : F[j]? = some (q, l)) : fget F q = l := by
  unfold fget
  induction F generalizing j with
  | nil => simp at h
  | cons p r ih =>
    simp only [List.map_cons, List.nodup_cons] at hn
    cases j with
    | zero =>
      simp only [List.getElem?_cons_zero, Option.some.injEq] at h
      subst h
      simp
    | succ k =>
      simp only [List.getElem?_cons_succ] at h
      have hne : ¬ p.1 = q := fun e => hn.1 (by rw [e]; exact List.mem_map.2 ⟨(q, l), List.mem_of_getElem? h, rfl⟩)
      simp only [List.find?_cons, beq_iff_eq, hne, not_false_eq_true]
      rw [show (p.1 == q) = false by simpa using hne]
      exact ih hn.2 h
theorem fget_none {F : List (List UInt8 × List (List UInt8))} {q : List UInt8} (h : q ∉ F.map (·.1)) : fget F q = [] := by
  unfold fget
  have : F.find? (fun p => p.1 == q) = none := by
    rw [List.find?_eq_none]
    intro p hp e
    exact h (List.mem_map.2 ⟨p, hp, by simpa using e⟩)
  rw [this]
  rfl
theorem fget_snoc {F : List (List UInt8 × List (List UInt8))} {i q : List UInt8} {l : List (List UInt8)} (h : i ∉ F.map (·.1)) : fget (F ++ [(i, l)]) q = if q = i then l else fget F q := by
  unfold fget
  rw [List.find?_append]
  by_cases e : q = i
  · subst e
    have : F.find? (fun p => p.1 == q) = none := by
      rw [List.find?_eq_none]
      intro p hp e
      exact h (List.mem_map.2 ⟨p, hp, by simpa using e⟩)
    rw [this]
    simp
  · rw [if_neg e]
    have : (i == q) = false := by simpa using fun h => e h.symm
    simp [List.find?_cons, this]
theorem keys_set {F : List (List UInt8 × List (List UInt8))} {j : Nat} {i : List UInt8} {l l' : List (List UInt8)} (h : F[j]? = some (i, l)) : (F.set j (i, l')).map (·.1) = F.map (·.1) := by
  apply List.ext_getElem?
  intro q
  rw [List.getElem?_map, List.getElem?_map, List.getElem?_set]
  by_cases e : j = q
  · subst e
    obtain ⟨hj, he⟩ := List.getElem?_eq_some_iff.1 h
    simp [hj, he]
  · simp [e]
theorem fget_set {F : List (List UInt8 × List (List UInt8))} (hn : (F.map (·.1)).Nodup) {j : Nat} {i q : List UInt8} {l l' : List (List UInt8)} (h : F[j]? = some (i, l)) : fget (F.set j (i, l')) q = if q = i then l' else fget F q := by
  have hk := keys_set (l' := l') h
  have hj := (List.getElem?_eq_some_iff.1 h).1
  have hn' : ((F.set j (i, l')).map (·.1)).Nodup := by rw [hk]; exact hn
  by_cases e : q = i
  · subst e
    rw [if_pos rfl]
    exact fget_at hn' (j := j) (by rw [List.getElem?_set_self (by simpa using hj)])
  · rw [if_neg e]
    by_cases hm : q ∈ F.map (·.1)
    · obtain ⟨p, hp, e2⟩ := List.mem_map.1 hm
      obtain ⟨k, hk2⟩ := List.getElem?_of_mem hp
      obtain ⟨p1, p2⟩ := p
      have e3 : p1 = q := e2
      subst e3
      have hjk : j ≠ k := by rintro rfl; rw [h] at hk2; cases hk2; exact e rfl
      rw [fget_at hn hk2, fget_at hn' (j := k) (by rw [List.getElem?_set_ne hjk]; exact hk2)]
    · rw [fget_none hm, fget_none (by rw [hk]; exact hm)]

section
variable {w : World} {b : Nat} {K : List (List UInt8)} {V : List Value}
/-- m[k] as a place, k new. -/
theorem Im.entryNew (h : Im w b K V) {t e : TypeId} (ht : Tryz.prog.underlying t = some (.map 36 e)) {z : Value} (hz : ∀ W, (zeroValue e).run Tryz.prog W = .ok z W) (i : List UInt8) (hi : i.length = 32) (hno : i ∉ K) :
    ∃ (st : Nat) (w1 : World), (Instr.mapEntry t (.map (some b)) (idv i)).run Tryz.prog w = .ok (.tuple #[z, goInt st]) w1 ∧ Kept [b] w w1 ∧ w1.heap.size = w.heap.size ∧
    ∀ (w2 : World) (val : Value), w2.heap[b]? = w1.heap[b]? → ∃ w3, (Instr.entryStore t (.map (some b)) (goInt st) val).run Tryz.prog w2 = .ok () w3 ∧ Kept [b] w2 w3 ∧ w3.heap.size = w2.heap.size ∧ Im w3 b (K ++ [i]) (V ++ [val]) := by
  have hlt := h.lt
  obtain ⟨es, clock, hb, hs, h1, h2, h3⟩ := h
  obtain ⟨kl, hkey⟩ := idv_key i hi
  have Lw := Tryz.lawID
  have hno' : ∀ x ∈ es.toList, x.key ≠ idv i := fun x hx e => hno (by
    have : x.key ∈ K.map idv := by rw [← h1]; exact List.mem_map_of_mem hx
    obtain ⟨q, hq, e2⟩ := List.mem_map.1 this
    rw [e] at e2
    rw [← idv_inj e2]
    exact hq)
  rcases Lw.find w hkey es.toList (keys_key h1 h3) with ⟨g1, g2⟩ | ⟨j, e0, g1, g2, g3⟩
  · refine ⟨clock, setBlock w b (.map (es.push ⟨idv i, z, clock⟩) (clock + 1)), ?_, kept_setBlock hlt _ hb, by simp [setBlock], fun w2 val hw2 => ?_⟩
    · simp [Instr.mapEntry, run_underlying ht, MapKept.run_getObj_map hb, Lw.check w false hkey, g1, hz, MapKept.run_setObj_map _ hb, Result.andThen, setBlock]
    · rw [heap_setBlock hlt] at hw2
      have hlt2 := (Array.getElem?_eq_some_iff.1 hw2).1
      have hidx : (es.push ⟨idv i, z, clock⟩).findIdx? (fun e => ((e.born : Nat) : Int) == ((clock : Nat) : Int)) = some es.size := by
        rw [findIdx_arr]
        refine findIdx_born (l := (es.push ⟨idv i, z, clock⟩).toList) (j := es.size) (e0 := ⟨idv i, z, clock⟩) ?_ (by simp)
        rw [Array.toList_push, List.map_append, List.nodup_append]
        refine ⟨hs.2.1, by simp, fun x hx y hy e1 => ?_⟩
        obtain ⟨q, hq, rfl⟩ := List.mem_map.1 hx
        have hlt := hs.1 q hq
        simp only [List.map_cons, List.map_nil, List.mem_singleton] at hy
        omega
      have hmod : (es.push ⟨idv i, z, clock⟩).modify es.size (fun e => { e with val := val }) = es.push ⟨idv i, val, clock⟩ := by
        apply Array.ext'
        rw [Array.toList_modify, Array.toList_push, Array.toList_push, ← Array.length_toList, modify_last]
      refine ⟨setBlock w2 b (.map (es.push ⟨idv i, val, clock⟩) (clock + 1)), ?_, kept_setBlock hlt2 _ hw2, by simp [setBlock], _, _, heap_setBlock hlt2 _, ⟨?_, ?_, ?_⟩, ?_, ?_, ?_⟩
      · simp [Instr.entryStore, MapKept.run_getObj_map hw2, asInt, asIntOf, goInt, hidx, hmod, MapKept.run_setObj_map _ hw2, Result.andThen, setBlock]
      · intro x hx
        rw [Array.toList_push, List.mem_append, List.mem_singleton] at hx
        rcases hx with hx | rfl
        · have := hs.1 x hx; omega
        · show clock < clock + 1; omega
      · rw [Array.toList_push, List.map_append, List.nodup_append]
        refine ⟨hs.2.1, by simp, fun x hx y hy => ?_⟩
        obtain ⟨q, hq, rfl⟩ := List.mem_map.1 hx
        have := hs.1 q hq
        simp only [List.map_cons, List.map_nil, List.mem_singleton] at hy
        omega
      · rw [Array.toList_push, List.map_append, List.nodup_append]
        refine ⟨hs.2.2, by simp, fun x hx y hy => ?_⟩
        obtain ⟨q, hq, rfl⟩ := List.mem_map.1 hx
        simp only [List.map_cons, List.map_nil, List.mem_singleton] at hy
        rw [hy]
        exact hno' q hq
      · rw [Array.toList_push, List.map_append, h1]; simp
      · rw [Array.toList_push, List.map_append, h2]; simp
      · intro x hx
        rw [List.mem_append, List.mem_singleton] at hx
        rcases hx with hx | rfl
        · exact h3 x hx
        · exact hi
  · exact absurd g3 (hno' e0 (List.mem_of_getElem? g2))
/-- m[k] as a place, k there. -/
theorem Im.entryOld (h : Im w b K V) {t e : TypeId} (ht : Tryz.prog.underlying t = some (.map 36 e)) (i : List UInt8) (hi : i.length = 32) (hin : i ∈ K) :
    ∃ (j : Nat) (v : Value) (st : Nat) (w1 : World), K[j]? = some i ∧ V[j]? = some v ∧ (Instr.mapEntry t (.map (some b)) (idv i)).run Tryz.prog w = .ok (.tuple #[v, goInt st]) w1 ∧ Kept [b] w w1 ∧ w1.heap.size = w.heap.size ∧
    ∀ (w2 : World) (val : Value), w2.heap[b]? = w1.heap[b]? → ∃ w3, (Instr.entryStore t (.map (some b)) (goInt st) val).run Tryz.prog w2 = .ok () w3 ∧ Kept [b] w2 w3 ∧ w3.heap.size = w2.heap.size ∧ Im w3 b K (V.set j val) := by
  have hlt := h.lt
  obtain ⟨es, clock, hb, hs, h1, h2, h3⟩ := h
  obtain ⟨kl, hkey⟩ := idv_key i hi
  have Lw := Tryz.lawID
  rcases Lw.find w hkey es.toList (keys_key h1 h3) with ⟨g1, g2⟩ | ⟨j, e0, g1, g2, g3⟩
  · have : idv i ∈ es.toList.map (·.key) := by rw [h1]; exact List.mem_map_of_mem hin
    obtain ⟨q, hq, e2⟩ := List.mem_map.1 this
    exact absurd e2 (g2 q hq)
  · have hj : es[j]? = some e0 := by simpa using g2
    have hjl : j < es.toList.length := (List.getElem?_eq_some_iff.1 g2).1
    have hsame : es.modify j (fun e => { e with key := idv i }) = es := by
      apply Array.ext'
      rw [Array.toList_modify, ChangeMaps.modify_eq_set _ _ _ _ g2]
      rw [show ({ e0 with key := idv i } : MapEntry) = e0 by rw [← g3]]
      exact set_self _ _ _ g2
    have hKj : K[j]? = some i := by
      have : (es.toList.map (·.key))[j]? = some (idv i) := by rw [List.getElem?_map, g2]; simp [g3]
      rw [h1, List.getElem?_map] at this
      obtain ⟨q, hq, e⟩ := Option.map_eq_some_iff.1 this
      rw [hq, idv_inj e]
    refine ⟨j, e0.val, e0.born, setBlock w b (.map es clock), hKj, by rw [← h2, List.getElem?_map, g2]; rfl, ?_, kept_setBlock hlt _ hb, by simp [setBlock], fun w2 val hw2 => ?_⟩
    · simp [Instr.mapEntry, run_underlying ht, MapKept.run_getObj_map hb, Lw.check w false hkey, g1, hj, g3, Lw.stays w hkey, hsame, MapKept.run_setObj_map _ hb, Result.andThen, setBlock]
    · rw [heap_setBlock hlt] at hw2
      have hlt2 := (Array.getElem?_eq_some_iff.1 hw2).1
      have hidx : es.findIdx? (fun e => ((e.born : Nat) : Int) == ((e0.born : Nat) : Int)) = some j := by
        rw [findIdx_arr]
        exact findIdx_born hs.2.1 g2
      have hmod : (es.modify j (fun e => { e with val := val })).toList = es.toList.set j ⟨e0.key, val, e0.born⟩ := by
        rw [Array.toList_modify, ChangeMaps.modify_eq_set _ _ _ _ g2]
      have self : ∀ {α : Type} (f : MapEntry → α), f ⟨e0.key, val, e0.born⟩ = f e0 → (es.toList.set j ⟨e0.key, val, e0.born⟩).map f = es.toList.map f := fun f hf => by
        rw [List.map_set, hf]
        exact set_self _ _ _ (by rw [List.getElem?_map, g2]; rfl)
      refine ⟨setBlock w2 b (.map (es.modify j (fun e => { e with val := val })) clock), ?_, kept_setBlock hlt2 _ hw2, by simp [setBlock], _, _, heap_setBlock hlt2 _, ⟨?_, ?_, ?_⟩, ?_, ?_, h3⟩
      · simp [Instr.entryStore, MapKept.run_getObj_map hw2, asInt, asIntOf, goInt, hidx, MapKept.run_setObj_map _ hw2, Result.andThen, setBlock]
      · rw [hmod]
        intro x hx
        rcases List.mem_or_eq_of_mem_set hx with hx | rfl
        · exact hs.1 x hx
        · exact hs.1 e0 (List.mem_of_getElem? g2)
      · rw [hmod, self (·.born) rfl]; exact hs.2.1
      · rw [hmod, self (·.key) rfl]; exact hs.2.2
      · rw [hmod, self (·.key) rfl]; exact h1
      · rw [hmod, List.map_set, h2]
end

/-- append(ids, id). -/
theorem run_appI {w : World} {base : Nat} {v : Value} {C : List (List UInt8)} (h : OwnI w base v C) (hb : base ≤ w.heap.size) (A : List UInt8) (hA : A.length = 32) (g : Nat) (hg : w.heap[g]? = some (.cells (bys A).toArray 36 (0, 0))) (hl : (C.length + 1) * 32 ≤ 140737488355328) :
    ∃ v' w', (Builtin.append_ #[28, 28] 28 #[v, .slice (some ⟨g, 0, none⟩) 1 1]).run Tryz.prog w = .ok v' w' ∧ OwnI w' base v' (C ++ [A]) ∧ (∀ l, (∀ g, v.ownBlock = some g → g ∈ l) → Kept l w w') ∧ (∀ g, v'.ownBlock = some g → v.ownBlock = some g ∨ w.heap.size ≤ g) := by
  obtain ⟨i0, hi, hz0, hz1, hz2⟩ := info_parts Tryz.infoIdx
  obtain ⟨v', w', hrun, h1', h2, h3, h4⟩ := run_append_own_at (P := Tryz.prog) w base 28 28 36 i0 (.agg zeroI) 32 32 Tryz.underlying28 hi hz0 hz1 hz2 rfl (by omega) v C.length (idrows C) h.1 ⟨g, 0, none⟩ 1 1 (bys A) (by rw [bys_length, hA])
    (fun j u hj => by rw [Addr.add_mid, Nat.zero_add, cell_of_row _ _ _ _ _ _ hg]; simpa using hj) (bys_oneCell A) (by unfold maxLen; omega) hl hb
  refine ⟨v', w', hrun, ⟨?_, fun i hi => ?_⟩, fun l hl2 => (Kept.refl l w).grown h2 (fun k hk _ => hl2 k hk), fun g hg => ?_⟩
  · rw [List.length_append, idrows_snoc]
    exact h1'
  · simp only [List.mem_append, List.mem_singleton] at hi
    rcases hi with hi | rfl
    · exact h.2 i hi
    · exact hA
  · rcases h4 with h4 | h4
    · exact .inl (by rw [← h4]; exact hg)
    · rw [h4] at hg
      simp only [Option.some.injEq] at hg
      exact .inr (by omega)


theorem getD_set (V : List Value) (j k : Nat) (v : Value) (hj : j < V.length) : (V.set j v).getD k unitv = if k = j then v else V.getD k unitv := by
  rw [List.getD_eq_getElem?_getD, List.getD_eq_getElem?_getD, List.getElem?_set]
  by_cases e : j = k
  · subst e; simp [hj]
  · have : ¬ k = j := fun h => e h.symm
    simp [e, this]

/-- What stands of the walk where the folders' map and rows of ids may turn. -/
theorem Wk.refold {w0 w w' : World} {P : Nat} {x : Wfd} {A N L B : List (List UInt8)} {F F' : List (List UInt8 × List (List UInt8))} {V V' : List Value} (h : Wk w0 w P x A N L B F V) {l : List Nat} (hk : Kept l w w') (hl : ∀ g ∈ l, g = x.bF ∨ (∃ cs t fr, w.heap[g]? = some (.cells cs t fr)) ∧ g ≠ P ∨ w.heap.size ≤ g) (hf : Im w' x.bF (F'.map (·.1)) V')
    (hr : ∀ j, j < F'.length → OwnI w' w0.heap.size (V'.getD j unitv) (F'.getD j ([], [])).2) (ha : ∀ j k, j < k → k < F'.length → (V'.getD j unitv).ownBlock = none ∨ (V'.getD j unitv).ownBlock ≠ (V'.getD k unitv).ownBlock) : Wk w0 w' P x A N L B F' V' := by
  have hd := h.dist
  simp only [Wfd.maps, List.nodup_cons, List.mem_cons, List.mem_nil_iff, or_false, not_or] at hd
  have hm : ∀ g ∈ x.maps, g ≠ x.bF → w'.heap[g]? = w.heap[g]? := fun g hg hne => by
    obtain ⟨es, c, e⟩ := h.map_at hg
    refine hk.block g (Array.getElem?_eq_some_iff.1 e).1 (fun hm => ?_)
    rcases hl g hm with h1 | ⟨⟨cs, t, fr, h1⟩, _⟩ | h1
    · exact hne h1
    · rw [e] at h1; cases h1
    · have := (Array.getElem?_eq_some_iff.1 e).1; omega
  have hP : w'.heap[P]? = w.heap[P]? := hk.block P h.ltP (fun hm => by
    rcases hl P hm with h1 | ⟨_, h1⟩ | h1
    · exact h.neP (by simp [Wfd.maps]) h1
    · exact h1 rfl
    · have := h.ltP; omega)
  exact ⟨hP.trans h.row, Im.same h.a (hm _ (by simp [Wfd.maps]) hd.1.2.2.2), Im.same h.n (hm _ (by simp [Wfd.maps]) hd.2.1.2.2), Im.same h.l (hm _ (by simp [Wfd.maps]) hd.2.2.1.2), Im.same h.b (hm _ (by simp [Wfd.maps]) hd.2.2.2.1), hf, hr, ha, h.dist, h.lo⟩

/-- folders[i] = append(folders[i], e): the three operations. -/
theorem Wk.adds {w0 w : World} {P : Nat} {x : Wfd} {A N L B : List (List UInt8)} {F : List (List UInt8 × List (List UInt8))} {V : List Value} (h : Wk w0 w P x A N L B F V) (hw0 : w0.heap.size ≤ w.heap.size) (i : List UInt8) (hi : i.length = 32) (e : List UInt8) (he : e.length = 32) (g1 : Nat) (hg1 : w.heap[g1]? = some (.cells (bys e).toArray 36 (0, 0))) (hg0 : w0.heap.size ≤ g1) (hgv : ∀ j, j < F.length → (V.getD j unitv).ownBlock ≠ some g1) (hlen : ((fget F i).length + 1) * 32 ≤ 140737488355328) :
    ∃ vo st w2 v' w3 w4 F' V', (Instr.mapEntry 78 (.map (some x.bF)) (.agg (bys i).toArray)).run Tryz.prog w = .ok (.tuple #[vo, goInt st]) w2 ∧ (Builtin.append_ #[28, 28] 28 #[vo, .slice (some ⟨g1, 0, none⟩) 1 1]).run Tryz.prog w2 = .ok v' w3 ∧ (Instr.entryStore 78 (.map (some x.bF)) (goInt st) v').run Tryz.prog w3 = .ok () w4 ∧
      Wk w0 w4 P x A N L B F' V' ∧ (∀ q, fget F' q = if q = i then fget F i ++ [e] else fget F q) ∧ ∃ l, (Kept l w w2 ∧ Kept l w w3 ∧ Kept l w w4) ∧ (∀ g ∈ l, w0.heap.size ≤ g ∧ (g = x.bF ∨ ∃ j, j < F.length ∧ (V.getD j unitv).ownBlock = some g)) ∧ ∀ j, j < F'.length → ∀ g, (V'.getD j unitv).ownBlock = some g → (∃ k, k < F.length ∧ (V.getD k unitv).ownBlock = some g) ∨ w.heap.size ≤ g := by
  have hFm := h.f
  have hVl : V.length = F.length := by have := hFm.len; simpa using this
  have hnd := hFm.nodup
  have hlo := h.lo.2 x.bF (by simp [Wfd.maps])
  have hz : ∀ W, (zeroValue 28).run Tryz.prog W = .ok (.slice none 0 0) W := fun W => by kernel_rfl
  obtain ⟨esb, cb, hbm, _⟩ := hFm
  have hgb : g1 ≠ x.bF := by rintro rfl; rw [hg1] at hbm; cases hbm
  have hcells : ∀ {base : Nat} {v : Value} {C : List (List UInt8)} {g : Nat}, OwnI w base v C → v.ownBlock = some g → base ≤ g ∧ g < w.heap.size ∧ (∃ cs t fr, w.heap[g]? = some (.cells cs t fr)) ∧ g ≠ P := by
    intro base v C g ho hg
    rcases ho.1.2 with ⟨e, _⟩ | ⟨q, cap, cur, e, hb, hh, _⟩
    · rw [e] at hg; cases hg
    · rw [e] at hg
      simp only [Value.ownBlock, Option.some.injEq] at hg
      subst hg
      exact ⟨hb, (Array.getElem?_eq_some_iff.1 hh).1, ⟨_, _, _, hh⟩, fun e => by rw [e, h.row] at hh; injection hh with hh; injection hh with _ hh _; exact absurd hh (by decide)⟩
  by_cases hin : i ∈ F.map (·.1)
  · obtain ⟨j, v, st, w1, hKj, hVj, hrun1, hk1, hs1, hst⟩ := h.f.entryOld Tryz.underlying78 i hi hin
    rw [List.getElem?_map] at hKj
    obtain ⟨⟨i', l⟩, hFj, e1⟩ := Option.map_eq_some_iff.1 hKj
    have e1 : i' = i := e1
    subst e1
    have hj : j < F.length := (List.getElem?_eq_some_iff.1 hFj).1
    have hgl : fget F i' = l := fget_at hnd hFj
    have hVd : V.getD j unitv = v := by rw [List.getD_eq_getElem?_getD, hVj]; rfl
    have hFd : F.getD j ([], []) = (i', l) := by rw [List.getD_eq_getElem?_getD, hFj]; rfl
    have hov : OwnI w w0.heap.size v l := by have := h.rows j hj; rw [hVd, hFd] at this; exact this
    have hvb : ∀ g, v.ownBlock = some g → g ≠ x.bF := fun g hg e2 => own_ne_map hov hbm (by rw [hg, e2])
    have hov1 : OwnI w1 w0.heap.size v l := hov.kept hk1 (fun g hg hm => hvb g hg (by simpa using hm))
    have hg11 : w1.heap[g1]? = some (.cells (bys e).toArray 36 (0, 0)) := by rw [hk1.block g1 (Array.getElem?_eq_some_iff.1 hg1).1 (by simpa using hgb)]; exact hg1
    obtain ⟨v', w3, hrun2, ho3, hk3, hb3⟩ := run_appI hov1 (by omega) e he g1 hg11 (by rw [← hgl]; exact hlen)
    have hl1 : ∃ l1 : List Nat, (∀ g, v.ownBlock = some g → g ∈ l1) ∧ ∀ g, g ∈ l1 → v.ownBlock = some g := by
      cases hv : v.ownBlock with
      | none => exact ⟨[], by simp, by simp⟩
      | some g => exact ⟨[g], by simp, by simp⟩
    obtain ⟨l1, hl1a, hl1b⟩ := hl1
    have hk3' := hk3 l1 hl1a
    have hbl : x.bF ∉ l1 := fun hm => hvb _ (hl1b _ hm) rfl
    have hblt : x.bF < w.heap.size := (Array.getElem?_eq_some_iff.1 hbm).1
    obtain ⟨w4, hrun3, hk4, hs4, him⟩ := hst w3 v' (hk3'.block x.bF (by omega) hbl)
    have hk13 : Kept (x.bF :: l1) w w3 := (hk1.mono (by simp)).trans hk3' (fun g hg _ => by simp [hg])
    have hk14 : Kept (x.bF :: l1) w w4 := hk13.trans hk4 (fun g hg _ => by simp at hg; simp [hg])
    have hVs : ∀ k, (V.set j v').getD k unitv = if k = j then v' else V.getD k unitv := fun k => getD_set V j k v' (by omega)
    have hv'b : ∀ g, v'.ownBlock = some g → g ≠ x.bF := fun g hg e2 => by
      rcases hb3 g hg with h5 | h5
      · exact hvb g h5 e2
      · omega
    refine ⟨v, st, w1, v', w3, w4, F.set j (i', l ++ [e]), V.set j v', hrun1, hrun2, hrun3, ?_, fun q => ?_, x.bF :: l1, ⟨hk1.mono (by simp), hk13, hk14⟩, fun g hg => ?_, fun k hk g hg => ?_⟩
    · refine h.refold hk14 (fun g hg => ?_) (by rw [keys_set hFj]; exact him) (fun k hk => ?_) (fun a b hab hb => ?_)
      · simp only [List.mem_cons] at hg
        rcases hg with rfl | hg
        · exact .inl rfl
        · obtain ⟨_, _, c1, c2⟩ := hcells hov (hl1b g hg)
          exact .inr (.inl ⟨c1, c2⟩)
      · have hk' : k < F.length := by simpa using hk
        rw [hVs k]
        by_cases hkj : k = j
        · subst hkj
          rw [if_pos rfl, List.getD_eq_getElem?_getD, List.getElem?_set_self hk']
          exact ho3.kept hk4 (fun g hg hm => hv'b g hg (by simpa using hm))
        · have e5 : (F.set j (i', l ++ [e])).getD k ([], []) = F.getD k ([], []) := by rw [List.getD_eq_getElem?_getD, List.getD_eq_getElem?_getD, List.getElem?_set_ne (fun e => hkj e.symm)]
          rw [if_neg hkj, e5]
          refine (h.rows k hk').kept hk14 (fun g hg hm => ?_)
          simp only [List.mem_cons] at hm
          rcases hm with rfl | hm
          · exact own_ne_map (h.rows k hk') hbm hg
          · have hvg := hl1b g hm
            rcases Nat.lt_or_gt_of_ne hkj with h5 | h5
            · rcases h.apart k j h5 hj with h6 | h6
              · rw [hg] at h6; cases h6
              · rw [hg, hVd, hvg] at h6; exact h6 rfl
            · rcases h.apart j k h5 hk' with h6 | h6
              · rw [hVd, hvg] at h6; cases h6
              · rw [hg, hVd, hvg] at h6; exact h6 rfl
      · have hb' : b < F.length := by simpa using hb
        rw [hVs a, hVs b]
        have hnew : ∀ k, k < F.length → k ≠ j → ∀ g, v'.ownBlock = some g → (V.getD k unitv).ownBlock ≠ some g := fun k hk' hkj g hg hg2 => by
          rcases hb3 g hg with h5 | h5
          · rcases Nat.lt_or_gt_of_ne hkj with h7 | h7
            · rcases h.apart k j h7 hj with h6 | h6
              · rw [hg2] at h6; cases h6
              · rw [hg2, hVd, h5] at h6; exact h6 rfl
            · rcases h.apart j k h7 hk' with h6 | h6
              · rw [hVd, h5] at h6; cases h6
              · rw [hg2, hVd, h5] at h6; exact h6 rfl
          · have := (hcells (h.rows k hk') hg2).2.1
            omega
        by_cases ha : a = j
        · subst ha
          rw [if_pos rfl, if_neg (by omega)]
          cases hv : v'.ownBlock with
          | none => exact .inl rfl
          | some g => exact .inr (fun e2 => hnew b hb' (by omega) g hv e2.symm)
        · rw [if_neg ha]
          by_cases hbj : b = j
          · subst hbj
            rw [if_pos rfl]
            cases hv : (V.getD a unitv).ownBlock with
            | none => exact .inl rfl
            | some g => exact .inr (fun e2 => hnew a (by omega) ha g e2.symm hv)
          · rw [if_neg hbj]
            exact h.apart a b hab hb'
    · rw [fget_set hnd hFj, hgl]
    · simp only [List.mem_cons] at hg
      rcases hg with rfl | hg
      · exact ⟨hlo, .inl rfl⟩
      · exact ⟨(hcells hov (hl1b g hg)).1, .inr ⟨j, hj, by rw [hVd]; exact hl1b g hg⟩⟩
    · have hk' : k < F.length := by simpa using hk
      rw [hVs k] at hg
      by_cases hkj : k = j
      · rw [if_pos hkj] at hg
        rcases hb3 g hg with h5 | h5
        · exact .inl ⟨j, hj, by rw [hVd]; exact h5⟩
        · exact .inr (by omega)
      · rw [if_neg hkj] at hg
        exact .inl ⟨k, hk', hg⟩
  · obtain ⟨st, w1, hrun1, hk1, hs1, hst⟩ := h.f.entryNew Tryz.underlying78 hz i hi hin
    have hgl : fget F i = [] := fget_none hin
    have hblt : x.bF < w.heap.size := (Array.getElem?_eq_some_iff.1 hbm).1
    have hg11 : w1.heap[g1]? = some (.cells (bys e).toArray 36 (0, 0)) := by rw [hk1.block g1 (Array.getElem?_eq_some_iff.1 hg1).1 (by simpa using hgb)]; exact hg1
    have hov1 : OwnI w1 w0.heap.size (.slice none 0 0) [] := ⟨World.ownsRow_nil _ _ _ _, by simp⟩
    obtain ⟨v', w3, hrun2, ho3, hk3, hb3⟩ := run_appI hov1 (by omega) e he g1 hg11 (by simp)
    have hk3' := hk3 [] (by simp [Value.ownBlock])
    obtain ⟨w4, hrun3, hk4, hs4, him⟩ := hst w3 v' (hk3'.block x.bF (by omega) (by simp))
    have hk13 : Kept [x.bF] w w3 := hk1.trans hk3' (by simp)
    have hk14 : Kept [x.bF] w w4 := hk13.trans hk4 (fun g hg _ => hg)
    have hv'b : ∀ g, v'.ownBlock = some g → w.heap.size ≤ g := fun g hg => by
      rcases hb3 g hg with h5 | h5
      · simp [Value.ownBlock] at h5
      · omega
    have hVs : ∀ k, k < F.length → (V ++ [v']).getD k unitv = V.getD k unitv := fun k hk => by rw [List.getD_eq_getElem?_getD, List.getD_eq_getElem?_getD, List.getElem?_append_left (by omega)]
    have hVe : (V ++ [v']).getD F.length unitv = v' := by rw [List.getD_eq_getElem?_getD, List.getElem?_append_right (by omega), hVl]; simp
    have hFs : ∀ k, k < F.length → (F ++ [(i, [e])]).getD k ([], []) = F.getD k ([], []) := fun k hk => by rw [List.getD_eq_getElem?_getD, List.getD_eq_getElem?_getD, List.getElem?_append_left (by omega)]
    have hFe : (F ++ [(i, [e])]).getD F.length ([], []) = (i, [e]) := by rw [List.getD_eq_getElem?_getD, List.getElem?_append_right (by omega)]; simp
    refine ⟨.slice none 0 0, st, w1, v', w3, w4, F ++ [(i, [e])], V ++ [v'], hrun1, hrun2, hrun3, ?_, fun q => ?_, [x.bF], ⟨hk1, hk13, hk14⟩, fun g hg => ?_, fun k hk g hg => ?_⟩
    · refine h.refold hk14 (fun g hg => .inl (by simpa using hg)) (by rw [List.map_append]; exact him) (fun k hk => ?_) (fun a b hab hb => ?_)
      · have hk' : k < F.length + 1 := by simpa using hk
        by_cases hkj : k < F.length
        · rw [hVs k hkj, hFs k hkj]
          exact (h.rows k hkj).kept hk14 (fun g hg hm => own_ne_map (h.rows k hkj) hbm (by simp at hm; rw [← hm]; exact hg))
        · obtain rfl : k = F.length := by omega
          rw [hVe, hFe]
          exact ho3.kept hk4 (fun g hg hm => by have := hv'b g hg; simp at hm; omega)
      · have hb' : b < F.length + 1 := by simpa using hb
        rw [hVs a (by omega)]
        by_cases hbj : b < F.length
        · rw [hVs b hbj]
          exact h.apart a b hab hbj
        · obtain rfl : b = F.length := by omega
          rw [hVe]
          cases hv : (V.getD a unitv).ownBlock with
          | none => exact .inl rfl
          | some g => exact .inr (fun e2 => by have := hv'b g e2.symm; have := (hcells (h.rows a (by omega)) hv).2.1; omega)
    · rw [fget_snoc hin, hgl]; rfl
    · simp only [List.mem_singleton] at hg
      subst hg
      exact ⟨hlo, .inl rfl⟩
    · have hk' : k < F.length + 1 := by simpa using hk
      by_cases hkj : k < F.length
      · rw [hVs k hkj] at hg
        exact .inl ⟨k, hkj, hg⟩
      · obtain rfl : k = F.length := by omega
        rw [hVe] at hg
        exact .inr (hv'b g hg)
end Go.Proofs.YtngaimahhgmciabGreatDoor
