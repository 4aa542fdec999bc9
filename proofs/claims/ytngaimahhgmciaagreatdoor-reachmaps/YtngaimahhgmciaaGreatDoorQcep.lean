/-
  Maps that are put to and deleted from, side by side; Need and Lacks of one of them.
-/
import Derived.Test.YtngaimahhgmciaaGreatDoorQpdp
import Derived.Test.YtngaimahhgmciaaGreatDoorQlap
import Derived.Test.YtngaimahhgmciaaGreatDoorQjap
namespace Go.Proofs.YtngaimahhgmciaaGreatDoor
open Go.RowKit Go.Lib Go.Sort
open Go.ChangeMaps (setBlock)
set_option linter.unusedVariables false
set_option linter.unusedSimpArgs false

theorem mpf_iff {M : List (List UInt8 × List UInt8)} (hn : (M.map (·.1)).Nodup) {p ys : List UInt8} : mpf M p = .data ys ↔ (p, ys) ∈ M := by
  constructor
  · exact mpf_data
  · intro h
    obtain ⟨j, hj⟩ := List.getElem?_of_mem h
    exact mpf_at hn hj
theorem mpf_ext {M : List (List UInt8 × List UInt8)} {f : List UInt8 → An} (hn : (M.map (·.1)).Nodup) (hf : ∀ p, f p ≠ .fail) (h : ∀ p ys, (p, ys) ∈ M ↔ f p = .data ys) : mpf M = f := by
  funext p
  cases hp : f p with
  | fail => exact absurd hp (hf p)
  | data ys => exact (mpf_iff hn).2 ((h p ys).2 hp)
  | lack =>
    refine mpf_none (fun hm => ?_)
    obtain ⟨x, hx, e⟩ := List.mem_map.1 hm
    have := (h x.1 x.2).1 hx
    rw [e, hp] at this
    cases this
theorem nodup_key {M : List (List UInt8 × List UInt8)} (hn : (M.map (·.1)).Nodup) {p ys zs : List UInt8} (h1 : (p, ys) ∈ M) (h2 : (p, zs) ∈ M) : ys = zs := by
  have a := (mpf_iff hn).2 h1
  rw [(mpf_iff hn).2 h2] at a
  injection a with a
  exact a.symm

section
variable {w w' : World} {b : Nat} {K : List (List UInt8)} {V : List Value}
/-- delete(m, k). -/
theorem Im.del (h : Im w b K V) {t e : TypeId} (ht : Tryz.prog.underlying t = some (.map 25 e)) (i : List UInt8) (hi : i.length = 32) (ty : TypeId) :
    ∃ w', (Builtin.delete_ #[t, 25] ty #[.map (some b), idv i]).run Tryz.prog w = .ok (.tuple #[]) w' ∧ Kept [b] w w' ∧ w'.heap.size = w.heap.size ∧ ((i ∉ K ∧ Im w' b K V) ∨ ∃ j, K[j]? = some i ∧ Im w' b (K.eraseIdx j) (V.eraseIdx j)) := by
  have hlt := h.lt
  obtain ⟨es, clock, hb, hs, h1, h2, h3⟩ := h
  obtain ⟨kl, hkey⟩ := idv_key i hi
  have L := Tryz.lawID
  rcases L.find w hkey es.toList (keys_key h1 h3) with ⟨g1, g2⟩ | ⟨j, e0, g1, g2, g3⟩
  · have hn : i ∉ K := fun hm => by
      have : idv i ∈ es.toList.map (·.key) := by rw [h1]; exact List.mem_map_of_mem hm
      obtain ⟨x, hx, e⟩ := List.mem_map.1 this
      exact g2 x hx e
    refine ⟨setBlock w b (.map es clock), ?_, kept_setBlock hlt _ hb, by simp [setBlock], .inl ⟨hn, es, clock, heap_setBlock hlt _, hs, h1, h2, h3⟩⟩
    simp [Builtin.delete_, run_underlying ht, MapKept.run_getObj_map hb, L.check w _ hkey, g1, MapKept.run_setObj_map _ hb, Result.andThen, setBlock]
  · have hjl : j < es.size := by have := (List.getElem?_eq_some_iff.1 g2).1; simpa using this
    have hK : K[j]? = some i := by
      have e1 : (es.toList.map (·.key))[j]? = some (idv i) := by rw [List.getElem?_map, g2, ← g3]; rfl
      rw [h1, List.getElem?_map] at e1
      obtain ⟨x, hx, e2⟩ := Option.map_eq_some_iff.1 e1
      rw [hx, idv_inj e2]
    refine ⟨setBlock w b (.map (es.eraseIdxIfInBounds j) clock), ?_, kept_setBlock hlt _ hb, by simp [setBlock], .inr ⟨j, hK, _, _, heap_setBlock hlt _, MapKept.stamped_erase hs _, ?_, ?_, ?_⟩⟩
    · simp [Builtin.delete_, run_underlying ht, MapKept.run_getObj_map hb, L.check w _ hkey, g1, MapKept.run_setObj_map _ hb, Result.andThen, setBlock]
    · unfold Array.eraseIdxIfInBounds
      rw [dif_pos hjl, Array.toList_eraseIdx, erase_map, h1, erase_map]
    · unfold Array.eraseIdxIfInBounds
      rw [dif_pos hjl, Array.toList_eraseIdx, erase_map, h2]
    · exact fun q hq => h3 q (List.mem_of_mem_eraseIdx hq)
end

/-- A Map in the blocks from lo to hi that says f. -/
def Mf (lo hi b : Nat) (f : List UInt8 → An) (N : Nat) (w : World) : Prop := ∃ M V, Ms9 lo hi b M V w ∧ mpf M = f ∧ M.length ≤ N
section
variable {lo hi b N : Nat} {f : List UInt8 → An} {w w' : World}
theorem Ms9.same9 {M : List (List UInt8 × List UInt8)} {V : List Value} (h : Ms9 lo hi b M V w) (hk : ∀ k, Rng lo hi k → w'.heap[k]? = w.heap[k]?) : Ms9 lo hi b M V w' := by
  refine ⟨h.im.same (hk b ⟨h.lob, h.hib⟩), fun j hj => ?_, h.len, h.lob, h.hib, h.hiv⟩
  have h1 := h.own j hj
  refine ⟨h1.1, ?_⟩
  rcases h1.2 with g1 | ⟨g, cap, cur, g1, g2, g3, g4⟩
  · exact .inl g1
  · exact .inr ⟨g, cap, cur, g1, g2, by rw [hk g ⟨g2, h.hiv j hj g (by rw [g1]; rfl)⟩]; exact g3, g4⟩
theorem Mf.same (h : Mf lo hi b f N w) (hk : ∀ k, Rng lo hi k → w'.heap[k]? = w.heap[k]?) : Mf lo hi b f N w' := by
  obtain ⟨M, V, h1, h2⟩ := h
  exact ⟨M, V, h1.same9 hk, h2⟩
theorem Mf.kept (h : Mf lo hi b f N w) (hh : hi ≤ w.heap.size) (hk : Kept [] w w') : Mf lo hi b f N w' := h.same (fun k hr => hk.block k (Nat.lt_of_lt_of_le hr.2 hh) (by simp))
theorem ownB_not {w : World} {b n : Nat} {K : List (List UInt8)} {V : List Value} {v : Value} {ys : List UInt8} (him : Im w b K V) (ho : OwnB w n v ys) : ∀ g, v.ownBlock = some g → g ≠ b := fun g hg hm => by
  subst hm
  obtain ⟨es, cl, e1, _⟩ := him
  rcases ho.2 with ⟨rfl, _⟩ | ⟨g2, c2, cur, rfl, _, hb, _⟩
  · simp [Value.ownBlock] at hg
  · simp only [Value.ownBlock, Option.some.injEq] at hg
    subst hg
    rw [e1] at hb
    cases hb
/-- Another Map's block turns. -/
theorem Mf.other {c : Nat} {K : List (List UInt8)} {W : List Value} (h : Mf lo hi b f N w) (hh : hi ≤ w.heap.size) (hc : Im w c K W) (hne : b ≠ c) (hk : Kept [c] w w') : Mf lo hi b f N w' := by
  obtain ⟨M, V, h1, h2⟩ := h
  refine ⟨M, V, ⟨h1.im.kept hk (by simpa using hne), fun j hj => ?_, h1.len, h1.lob, h1.hib, h1.hiv⟩, h2⟩
  exact (h1.own j hj).kept hk (fun g hg hm => ownB_not hc (h1.own j hj) g hg (by simpa using hm))
theorem Mf.im (h : Mf lo hi b f N w) : ∃ K V, Im w b K V := by
  obtain ⟨M, V, h1, _⟩ := h
  exact ⟨_, V, h1.im⟩
theorem Mf.nofail (h : Mf lo hi b f N w) (p : List UInt8) : f p ≠ .fail := by
  obtain ⟨M, V, _, h2, _⟩ := h
  rw [← h2]; exact mpf_nofail M p
/-- m[k], of what is there. -/
theorem Mf.look (h : Mf lo hi b f N w) (q : List UInt8) (hq : q.length = 32) {xs : List UInt8} (hf : f q = .data xs) : ∃ v, OwnB w lo v xs ∧ (∀ g, v.ownBlock = some g → g < hi) ∧ xs.length ≤ 140737488355328 ∧ ∀ W, Kept [] w W → (Instr.lookup 33 (.map (some b)) (.agg (bys q).toArray) false).run Tryz.prog W = .ok v W := by
  obtain ⟨M, V, h1, h2, h3⟩ := h
  rw [← h2] at hf
  have hm := mpf_data hf
  obtain ⟨j, hj⟩ := List.getElem?_of_mem hm
  have hjl : j < M.length := (List.getElem?_eq_some_iff.1 hj).1
  have hFd : M.getD j ([], []) = (q, xs) := by rw [List.getD_eq_getElem?_getD, hj]; rfl
  have ho := h1.own j hjl
  rw [hFd] at ho
  have hKj : (M.map (·.1))[j]? = some q := by rw [List.getElem?_map, hj]; rfl
  refine ⟨V.getD j unitv, ho, h1.hiv j hjl, h1.len _ hm, fun W hW => ?_⟩
  rcases (h1.im.kept hW (by simp)).look Tryz.underlying33 Tryz.nilB q hq false with ⟨g1, _⟩ | ⟨j2, v, g1, g2, g3⟩
  · exact absurd (List.mem_of_getElem? hKj) g1
  · have e2 := nodup_idx h1.im.nodup g1 hKj
    subst e2
    have : V.getD j2 unitv = v := by rw [List.getD_eq_getElem?_getD, g2]; rfl
    rw [this]
    simp only [Bool.false_eq_true, if_false] at g3
    exact g3
set_option maxRecDepth 100000 in
/-- m[k] = v. -/
theorem Mf.put (h : Mf lo hi b f N w) (q : List UInt8) (hq : q.length = 32) {v : Value} {xs : List UInt8} (ho : OwnB w lo v xs) (hv : ∀ g, v.ownBlock = some g → g < hi) (hl : xs.length ≤ 140737488355328) :
    ∃ w', (Instr.mapUpdate 33 (.map (some b)) (.agg (bys q).toArray) v).run Tryz.prog w = .ok () w' ∧ Mf lo hi b (fun p => if p = q then .data xs else f p) (N + 1) w' ∧ Kept [b] w w' := by
  have hnf := h.nofail
  obtain ⟨M, V, h1, h2, h3⟩ := h
  have hVl : V.length = M.length := by have := h1.im.len; rwa [List.length_map] at this
  obtain ⟨w', hrun, hk, _, him⟩ := h1.im.put Tryz.underlying33 q hq v
  have hnodup := h1.im.nodup
  have hold : ∀ {u : Value} {ys : List UInt8}, OwnB w lo u ys → OwnB w' lo u ys := fun ho => ho.kept hk (fun g hg hm => ownB_not h1.im ho g hg (by simpa using hm))
  refine ⟨w', hrun, ?_, hk⟩
  rcases him with ⟨hn, him⟩ | ⟨j, hj, him⟩
  · have hkeys : (M ++ [(q, xs)]).map (·.1) = M.map (·.1) ++ [q] := by simp
    refine ⟨M ++ [(q, xs)], V ++ [v], ⟨by rw [hkeys]; exact him, fun j hj => ?_, fun p hp => ?_, h1.lob, h1.hib, fun j hj => ?_⟩, mpf_ext (by rw [hkeys]; exact him.nodup) (fun p => ?_) (fun p ys => ?_), by simp; omega⟩
    · rw [List.length_append] at hj
      simp only [List.length_cons, List.length_nil] at hj
      by_cases e : j < M.length
      · rw [getD_lt9 V [v] j unitv (by omega), getD_lt9 M _ j _ e]
        exact hold (h1.own j e)
      · have e2 : j = M.length := by omega
        subst e2
        rw [getD_eq9 M, show M.length = V.length from hVl.symm, getD_eq9 V]
        exact hold ho
    · rw [List.mem_append, List.mem_singleton] at hp
      rcases hp with hp | rfl
      · exact h1.len p hp
      · exact hl
    · rw [List.length_append] at hj
      simp only [List.length_cons, List.length_nil] at hj
      by_cases e : j < M.length
      · rw [getD_lt9 V [v] j unitv (by omega)]
        exact h1.hiv j e
      · have e2 : j = V.length := by omega
        subst e2
        rw [getD_eq9 V]
        exact hv
    · show (if p = q then An.data xs else f p) ≠ .fail
      split
      · simp
      · exact hnf p
    · show _ ↔ (if p = q then An.data xs else f p) = .data ys
      rw [List.mem_append, List.mem_singleton, Prod.mk.injEq]
      by_cases e : p = q
      · subst e
        rw [if_pos rfl]
        constructor
        · rintro (h | ⟨_, rfl⟩)
          · exact absurd (List.mem_map.2 ⟨_, h, rfl⟩) hn
          · rfl
        · intro h
          injection h with h
          exact .inr ⟨rfl, h.symm⟩
      · rw [if_neg e, ← h2, mpf_iff hnodup]
        exact ⟨fun h => h.elim id (fun h => absurd h.1 e), .inl⟩
  · have hjl : j < M.length := by have := (List.getElem?_eq_some_iff.1 hj).1; simpa using this
    have hkeys : (M.set j (q, xs)).map (·.1) = M.map (·.1) := by
      rw [List.map_set]
      apply List.ext_getElem?
      intro k
      rw [List.getElem?_set]
      split
      · subst_vars
        rw [hj, if_pos (by simpa using hjl)]
      · rfl
    have hsl : (M.set j (q, xs)).length = M.length := by simp
    refine ⟨M.set j (q, xs), V.set j v, ⟨by rw [hkeys]; exact him, fun k hk => ?_, fun p hp => ?_, h1.lob, h1.hib, fun k hk => ?_⟩, mpf_ext (by rw [hkeys]; exact hnodup) (fun p => ?_) (fun p ys => ?_), by rw [hsl]; omega⟩
    · rw [hsl] at hk
      simp only [List.getD_eq_getElem?_getD, List.getElem?_set]
      by_cases e : j = k
      · subst e
        rw [if_pos rfl, if_pos (by omega), if_pos rfl, if_pos hk]
        exact hold ho
      · rw [if_neg e, if_neg e, ← List.getD_eq_getElem?_getD, ← List.getD_eq_getElem?_getD]
        exact hold (h1.own k hk)
    · rcases List.mem_or_eq_of_mem_set hp with hp | rfl
      · exact h1.len p hp
      · exact hl
    · rw [hsl] at hk
      simp only [List.getD_eq_getElem?_getD, List.getElem?_set]
      by_cases e : j = k
      · subst e
        rw [if_pos rfl, if_pos (by omega)]
        exact hv
      · rw [if_neg e, ← List.getD_eq_getElem?_getD]
        exact h1.hiv k hk
    · show (if p = q then An.data xs else f p) ≠ .fail
      split
      · simp
      · exact hnf p
    · show _ ↔ (if p = q then An.data xs else f p) = .data ys
      have hkey2 : ∀ k, (hk : k < M.length) → M[k].1 = q → k = j := fun k hk e => nodup_idx hnodup (by rw [List.getElem?_map, List.getElem?_eq_getElem hk, ← e]; rfl) hj
      by_cases e : p = q
      · subst e
        rw [if_pos rfl]
        constructor
        · intro h
          obtain ⟨k, hk, ek⟩ := List.getElem_of_mem h
          rw [hsl] at hk
          rw [List.getElem_set] at ek
          split at ek
          · injection ek with _ ek
            rw [ek]
          · rename_i hne
            exact absurd (hkey2 k hk (by rw [ek])).symm hne
        · intro h
          injection h with h
          subst h
          exact List.mem_of_getElem? (i := j) (by rw [List.getElem?_set, if_pos rfl, if_pos hjl])
      · rw [if_neg e, ← h2, mpf_iff hnodup]
        constructor
        · intro h
          rcases List.mem_or_eq_of_mem_set h with h | h
          · exact h
          · injection h with h _
            exact absurd h e
        · intro h
          obtain ⟨k, hk, ek⟩ := List.getElem_of_mem h
          refine List.mem_of_getElem? (i := k) ?_
          rw [List.getElem?_set]
          split
          · subst_vars
            exfalso
            rw [List.getElem?_map, List.getElem?_eq_getElem hk, ek] at hj
            injection hj with hj
            exact e hj
          · rw [List.getElem?_eq_getElem hk, ek]
set_option maxRecDepth 100000 in
/-- delete(m, k). -/
theorem Mf.del (h : Mf lo hi b f N w) (q : List UInt8) (hq : q.length = 32) (ty : TypeId) :
    ∃ w', (Builtin.delete_ #[33, 25] ty #[.map (some b), .agg (bys q).toArray]).run Tryz.prog w = .ok (.tuple #[]) w' ∧ Mf lo hi b (fun p => if p = q then .lack else f p) N w' ∧ Kept [b] w w' := by
  have hnf := h.nofail
  obtain ⟨M, V, h1, h2, h3⟩ := h
  have hVl : V.length = M.length := by have := h1.im.len; rwa [List.length_map] at this
  obtain ⟨w', hrun, hk, _, him⟩ := h1.im.del Tryz.underlying33 q hq ty
  have hnodup := h1.im.nodup
  have hold : ∀ {u : Value} {ys : List UInt8}, OwnB w lo u ys → OwnB w' lo u ys := fun ho => ho.kept hk (fun g hg hm => ownB_not h1.im ho g hg (by simpa using hm))
  have hff : ∀ p, (if p = q then An.lack else f p) ≠ .fail := fun p => by
    split
    · simp
    · exact hnf p
  refine ⟨w', hrun, ?_, hk⟩
  rcases him with ⟨hn, him⟩ | ⟨j, hj, him⟩
  · refine ⟨M, V, ⟨him, fun j hj => hold (h1.own j hj), h1.len, h1.lob, h1.hib, h1.hiv⟩, mpf_ext hnodup hff (fun p ys => ?_), h3⟩
    by_cases e : p = q
    · subst e
      rw [if_pos rfl]
      exact ⟨fun h => absurd (List.mem_map.2 ⟨_, h, rfl⟩) hn, fun h => by cases h⟩
    · rw [if_neg e, ← h2, mpf_iff hnodup]
  · have hjl : j < M.length := by have := (List.getElem?_eq_some_iff.1 hj).1; simpa using this
    have hkeys : (M.eraseIdx j).map (·.1) = (M.map (·.1)).eraseIdx j := erase_map _ _ _
    have hkey2 : ∀ k, (hk : k < M.length) → M[k].1 = q → k = j := fun k hk e => nodup_idx hnodup (by rw [List.getElem?_map, List.getElem?_eq_getElem hk, ← e]; rfl) hj
    have hel : (M.eraseIdx j).length = M.length - 1 := by rw [List.length_eraseIdx, if_pos hjl]
    have hget : ∀ {α : Type} (l : List α) (k : Nat) (d : α), (l.eraseIdx j).getD k d = l.getD (if k < j then k else k + 1) d := fun l k d => by
      rw [List.getD_eq_getElem?_getD, List.getElem?_eraseIdx, List.getD_eq_getElem?_getD]
      split <;> rfl
    refine ⟨M.eraseIdx j, V.eraseIdx j, ⟨by rw [hkeys]; exact him, fun k hk => ?_, fun p hp => h1.len p (List.mem_of_mem_eraseIdx hp), h1.lob, h1.hib, fun k hk => ?_⟩, mpf_ext (by rw [hkeys]; exact him.nodup) hff (fun p ys => ?_), by rw [hel]; omega⟩
    · rw [hel] at hk
      rw [hget, hget]
      exact hold (h1.own _ (by split <;> omega))
    · rw [hel] at hk
      rw [hget]
      exact h1.hiv _ (by split <;> omega)
    · by_cases e : p = q
      · subst e
        rw [if_pos rfl]
        constructor
        · intro h
          have hin : p ∈ (M.eraseIdx j).map (·.1) := List.mem_map.2 ⟨_, h, rfl⟩
          rw [hkeys] at hin
          obtain ⟨k, hk⟩ := List.getElem?_of_mem hin
          rw [List.getElem?_eraseIdx] at hk
          split at hk
          · have := nodup_idx hnodup hk hj; omega
          · have := nodup_idx hnodup hk hj; omega
        · intro h; cases h
      · rw [if_neg e, ← h2, mpf_iff hnodup]
        constructor
        · exact List.mem_of_mem_eraseIdx
        · intro h
          obtain ⟨k, hk, ek⟩ := List.getElem_of_mem h
          have hne : k ≠ j := by
            rintro rfl
            rw [List.getElem?_map, List.getElem?_eq_getElem hk, ek] at hj
            injection hj with hj
            exact e hj
          by_cases hlt : k < j
          · exact List.mem_of_getElem? (i := k) (by rw [List.getElem?_eraseIdx, if_pos hlt, List.getElem?_eq_getElem hk, ek])
          · exact List.mem_of_getElem? (i := k - 1) (by rw [List.getElem?_eraseIdx, if_neg (by omega), show k - 1 + 1 = k by omega, List.getElem?_eq_getElem hk, ek])
end

/-- All blocks from lo to hi as they are in a world. -/
def FixS (ws : World) (lo hi : Nat) (w : World) : Prop := ∀ k, Rng lo hi k → w.heap[k]? = ws.heap[k]?
theorem fix_std {ws : World} {lo hi b : Nat} {M : List (List UInt8 × List UInt8)} {V : List Value} (hgt : 4 ≤ lo) (h : Ms9 lo hi b M V ws) : Std (.map (some b)) M (Rng lo hi) (FixS ws lo hi) where
  isM := ⟨_, rfl⟩
  keep := by
    intro w w' hs hk k hr
    exact (hk k hr).trans (hs k hr)
  at_ := by
    intro w hs
    have h1 : Ms9 lo hi b M V w := h.same9 hs
    refine .inr ⟨b, V, rfl, h1.im, fun j hj => vl9_own (h1.own j hj) (h1.len _ ?_)⟩
    rw [List.getD_eq_getElem?_getD, List.getElem?_eq_getElem hj]
    exact List.getElem_mem _
  off := fun k hk h => by
    have := h.1
    omega
theorem fix_kept {ws w w' : World} {lo hi : Nat} (hk : Kp (Rng lo hi) w w') (h1 : FixS ws lo hi w) (h2 : FixS ws lo hi w') : Kept [] w w' :=
  ⟨hk.os, hk.tape, hk.output, hk.size, fun k hlt _ => by
    by_cases hr : Rng lo hi k
    · rw [h2 k hr, h1 k hr]
    · exact hk.block k hlt hr⟩
section
variable {lo hi b N : Nat} {f : List UInt8 → An} {w : World}
/-- Need, of a Map. -/
theorem needf_ok (h : Mf lo hi b f N w) (hgt : 4 ≤ lo) (hh : hi ≤ w.heap.size) (gl : GlE w) (tabs : Tabs w) (ao : Option Addr) (n c : Nat) (L : List Rz) (hl : L.length = n) (hL : Rss w ao L) (hn : n + N * 32 ≤ 4398046511104) (hfar : L ≠ [] → ∀ a, ao = some a → a.block < w.heap.size) :
    Calls Tryz.prog 19 #[.iface 33 (.map (some b)), .slice ao n c] w fun e w' => ∃ v ev r, e = .returned (.tuple #[v, ev]) ∧ Tls f (L.map (·.root)) r ∧ ErrN w' w.heap.size (picks r.2.1.B r.2.2 r.2.1.L) r.2.1.N v ev ∧ (canon r.2.1.N).length ≤ n + N * 32 ∧ Kept [] w w' := by
  obtain ⟨M, V, h1, rfl, h3⟩ := h
  have hM : M.length * 32 ≤ N * 32 := Nat.mul_le_mul_right 32 h3
  have hnd := need9_ok (fix_std hgt h1) (fun k _ => rfl) (fun k hk => Nat.lt_of_lt_of_le hk.2 hh) gl tabs ao n c L hl hL (by omega) hfar
  refine hnd.mono (fun e w' hN => ?_)
  obtain ⟨v, ev, he, hE⟩ := hN.tup
  refine ⟨v, ev, _, he, walk_sem (mpf_nofail M) [] _, hE, ?_, fix_kept hN.kp (fun k _ => rfl) hN.st⟩
  have := need_len (M := M) (roots := L.map (·.root))
  rw [List.length_map, hl] at this
  omega
/-- Lacks, of a Map. -/
theorem lacksf_ok (h : Mf lo hi b f N w) (hgt : 4 ≤ lo) (hh : hi ≤ w.heap.size) (gl : GlE w) (tabs : Tabs w) (ao : Option Addr) (n c : Nat) (L : List Rz) (hl : L.length = n) (hL : Rss w ao L) (hn : n + N * 32 ≤ 4398046511104) (hfar : L ≠ [] → ∀ a, ao = some a → a.block < w.heap.size) :
    Calls Tryz.prog 20 #[.iface 33 (.map (some b)), .slice ao n c] w fun e w' => ∃ v r, e = .returned (.tuple #[v, .nilIface]) ∧ Tls f (L.map (·.root)) r ∧ OwnI w' w.heap.size v (canon r.2.1.L) ∧ Kept [] w w' := by
  obtain ⟨M, V, h1, rfl, h3⟩ := h
  have hM : M.length * 32 ≤ N * 32 := Nat.mul_le_mul_right 32 h3
  have hnd := lacks9_ok (fix_std hgt h1) (fun k _ => rfl) (fun k hk => Nat.lt_of_lt_of_le hk.2 hh) gl tabs ao n c L hl hL (by omega) hfar
  refine hnd.mono (fun e w' hN => ?_)
  obtain ⟨v, he, hE⟩ := hN.ans
  exact ⟨v, _, he, walk_sem (mpf_nofail M) [] _, hE, fix_kept hN.kp (fun k _ => rfl) hN.st⟩
end
end Go.Proofs.YtngaimahhgmciaaGreatDoor
