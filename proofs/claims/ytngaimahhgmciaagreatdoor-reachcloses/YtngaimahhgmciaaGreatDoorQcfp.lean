/-
  ReachCloses: its ground: three Maps side by side, a need beside them; mathematics.
-/
import Derived.Test.YtngaimahhgmciaaGreatDoorQcdp
import Derived.Test.YtngaimahhgmciaaGreatDoorQcep
namespace Go.Proofs.YtngaimahhgmciaaGreatDoor
open Go.RowKit Go.Lib Go.Sort
set_option linter.unusedVariables false
set_option linter.unusedSimpArgs false

theorem Ms9.wide {lo hi lo' hi' b : Nat} {M : List (List UInt8 × List UInt8)} {V : List Value} {w : World} (h : Ms9 lo hi b M V w) (h1 : lo' ≤ lo) (h2 : hi ≤ hi') : Ms9 lo' hi' b M V w :=
  ⟨h.im, fun j hj => own_base9 (h.own j hj) h1, h.len, Nat.le_trans h1 h.lob, Nat.lt_of_lt_of_le h.hib h2, fun j hj g hg => Nat.lt_of_lt_of_le (h.hiv j hj g hg) h2⟩
theorem Ms9.kept9 {lo hi b : Nat} {M : List (List UInt8 × List UInt8)} {V : List Value} {w w' : World} (h : Ms9 lo hi b M V w) (hk : Kept [] w w') : Ms9 lo hi b M V w' :=
  ⟨h.im.kept hk (by simp), fun j hj => (h.own j hj).kept hk (fun _ _ => by simp), h.len, h.lob, h.hib, h.hiv⟩
theorem Mf.wide {lo hi lo' hi' b N : Nat} {f : List UInt8 → An} {w : World} (h : Mf lo hi b f N w) (h1 : lo' ≤ lo) (h2 : hi ≤ hi') : Mf lo' hi' b f N w := by
  obtain ⟨M, V, a1, a2, a3⟩ := h
  exact ⟨M, V, a1.wide h1 h2, a2, a3⟩
theorem Mf.new {lo hi b : Nat} {w : World} (h : Im w b [] []) (h1 : lo ≤ b) (h2 : b < hi) : Mf lo hi b (fun _ => .lack) 0 w :=
  ⟨[], [], ⟨h, fun j hj => absurd hj (Nat.not_lt_zero j), fun p hp => by simp at hp, h1, h2, fun j hj => absurd hj (Nat.not_lt_zero j)⟩, rfl, Nat.le_refl 0⟩
theorem Ms9.mf {lo hi b N : Nat} {M : List (List UInt8 × List UInt8)} {V : List Value} {w : World} (h : Ms9 lo hi b M V w) (hN : M.length ≤ N) : Mf lo hi b (mpf M) N w := ⟨M, V, h, rfl, hN⟩
theorem Ms9.mapAt {lo hi b : Nat} {M : List (List UInt8 × List UInt8)} {V : List Value} {w : World} (h : Ms9 lo hi b M V w) (hgt : 4 ≤ lo) : MapAt w (.map (some b)) M := (fix_std hgt h).at_ (fun _ _ => rfl)
/-- A row of ids is no Map's block. -/
theorem ids_noMap {w : World} {b n : Nat} {K : List (List UInt8)} {V : List Value} {v : Value} {L : List (List UInt8)} (him : Im w b K V) (ho : OwnI w n v L) : ∀ g, v.ownBlock = some g → g ≠ b := fun g hg hm => by
  subst hm
  obtain ⟨es, cl, e1, _⟩ := him
  rcases ho.1.2 with ⟨rfl, _⟩ | ⟨g2, c2, cur, rfl, _, hb, _⟩
  · simp [Value.ownBlock] at hg
  · simp only [Value.ownBlock, Option.some.injEq] at hg
    subst hg
    rw [e1] at hb
    cases hb
section
variable {lo hi b N : Nat} {f : List UInt8 → An} {w w' : World}
/-- m[k], of what is there, whatever else turns. -/
theorem Mf.lookL (h : Mf lo hi b f N w) (q : List UInt8) (hq : q.length = 32) {xs : List UInt8} (hf : f q = .data xs) : ∃ v, OwnB w lo v xs ∧ (∀ g, v.ownBlock = some g → g < hi) ∧ xs.length ≤ 140737488355328 ∧ ∀ l W, b ∉ l → Kept l w W → (Instr.lookup 33 (.map (some b)) (.agg (bys q).toArray) false).run Tryz.prog W = .ok v W := by
  obtain ⟨M, V, h1, h2, h3⟩ := h
  rw [← h2] at hf
  have hm := mpf_data hf
  obtain ⟨j, hj⟩ := List.getElem?_of_mem hm
  have hjl : j < M.length := (List.getElem?_eq_some_iff.1 hj).1
  have hFd : M.getD j ([], []) = (q, xs) := by rw [List.getD_eq_getElem?_getD, hj]; rfl
  have ho := h1.own j hjl
  rw [hFd] at ho
  have hKj : (M.map (·.1))[j]? = some q := by rw [List.getElem?_map, hj]; rfl
  refine ⟨V.getD j unitv, ho, h1.hiv j hjl, h1.len _ hm, fun l W hl hW => ?_⟩
  rcases (h1.im.kept hW hl).look Tryz.underlying33 Tryz.nilB q hq false with ⟨g1, _⟩ | ⟨j2, v, g1, g2, g3⟩
  · exact absurd (List.mem_of_getElem? hKj) g1
  · have e2 := nodup_idx h1.im.nodup g1 hKj
    subst e2
    have : V.getD j2 unitv = v := by rw [List.getD_eq_getElem?_getD, g2]; rfl
    rw [this]
    simp only [Bool.false_eq_true, if_false] at g3
    exact g3
end

/-- Three Maps side by side, and a row of ids. -/
structure Clo (lo hi b1 bj bb : Nat) (f1 fj fg : List UInt8 → An) (nj ng base : Nat) (lv : Value) (l : List (List UInt8)) (w : World) : Prop where
  m : Mf lo hi b1 f1 60 w
  j : Mf lo hi bj fj nj w
  g : Mf lo hi bb fg ng w
  l : OwnI w base lv l
  hh : hi ≤ w.heap.size
  n1 : b1 ≠ bj
  n2 : b1 ≠ bb
  n3 : bj ≠ bb
section
variable {lo hi b1 bj bb nj ng base : Nat} {f1 fj fg : List UInt8 → An} {lv : Value} {l : List (List UInt8)} {w w' : World}
theorem Clo.kept (h : Clo lo hi b1 bj bb f1 fj fg nj ng base lv l w) (hk : Kept [] w w') : Clo lo hi b1 bj bb f1 fj fg nj ng base lv l w' :=
  ⟨h.m.kept h.hh hk, h.j.kept h.hh hk, h.g.kept h.hh hk, h.l.kept hk (by simp), Nat.le_trans h.hh hk.size, h.n1, h.n2, h.n3⟩
theorem Clo.putJ (h : Clo lo hi b1 bj bb f1 fj fg nj ng base lv l w) (q : List UInt8) (hq : q.length = 32) {v : Value} {xs : List UInt8} (ho : OwnB w lo v xs) (hv : ∀ g, v.ownBlock = some g → g < hi) (hl : xs.length ≤ 140737488355328) :
    ∃ w', (Instr.mapUpdate 33 (.map (some bj)) (.agg (bys q).toArray) v).run Tryz.prog w = .ok () w' ∧ Clo lo hi b1 bj bb f1 (fun p => if p = q then .data xs else fj p) fg (nj + 1) ng base lv l w' ∧ Kept [bj] w w' := by
  obtain ⟨K, V, him⟩ := h.j.im
  obtain ⟨w', hrun, hmf, hk⟩ := h.j.put q hq ho hv hl
  exact ⟨w', hrun, ⟨h.m.other h.hh him h.n1 hk, hmf, h.g.other h.hh him (Ne.symm h.n3) hk, h.l.kept hk (fun g hg hm => ids_noMap him h.l g hg (by simpa using hm)), Nat.le_trans h.hh hk.size, h.n1, h.n2, h.n3⟩, hk⟩
theorem Clo.putG (h : Clo lo hi b1 bj bb f1 fj fg nj ng base lv l w) (q : List UInt8) (hq : q.length = 32) {v : Value} {xs : List UInt8} (ho : OwnB w lo v xs) (hv : ∀ g, v.ownBlock = some g → g < hi) (hl : xs.length ≤ 140737488355328) :
    ∃ w', (Instr.mapUpdate 33 (.map (some bb)) (.agg (bys q).toArray) v).run Tryz.prog w = .ok () w' ∧ Clo lo hi b1 bj bb f1 fj (fun p => if p = q then .data xs else fg p) nj (ng + 1) base lv l w' ∧ Kept [bb] w w' := by
  obtain ⟨K, V, him⟩ := h.g.im
  obtain ⟨w', hrun, hmf, hk⟩ := h.g.put q hq ho hv hl
  exact ⟨w', hrun, ⟨h.m.other h.hh him h.n2 hk, h.j.other h.hh him h.n3 hk, hmf, h.l.kept hk (fun g hg hm => ids_noMap him h.l g hg (by simpa using hm)), Nat.le_trans h.hh hk.size, h.n1, h.n2, h.n3⟩, hk⟩
theorem Clo.del (h : Clo lo hi b1 bj bb f1 fj fg nj ng base lv l w) (q : List UInt8) (hq : q.length = 32) (ty : TypeId) :
    ∃ w', (Builtin.delete_ #[33, 25] ty #[.map (some bj), .agg (bys q).toArray]).run Tryz.prog w = .ok (.tuple #[]) w' ∧ Clo lo hi b1 bj bb f1 (fun p => if p = q then .lack else fj p) fg nj ng base lv l w' ∧ Kept [bj] w w' := by
  obtain ⟨K, V, him⟩ := h.j.im
  obtain ⟨w', hrun, hmf, hk⟩ := h.j.del q hq ty
  exact ⟨w', hrun, ⟨h.m.other h.hh him h.n1 hk, hmf, h.g.other h.hh him (Ne.symm h.n3) hk, h.l.kept hk (fun g hg hm => ids_noMap him h.l g hg (by simpa using hm)), Nat.le_trans h.hh hk.size, h.n1, h.n2, h.n3⟩, hk⟩
end

/-- What is f1 on some ids, and f0 on all others. -/
def jf (f1 f0 : List UInt8 → An) (T : List (List UInt8)) (p : List UInt8) : An := if p ∈ T then f1 p else f0 p
theorem jf_nil (f1 f0 : List UInt8 → An) : jf f1 f0 [] = f0 := by
  funext p
  simp [jf]
theorem jf_snoc {f1 f0 : List UInt8 → An} {T : List (List UInt8)} {q xs : List UInt8} (h : f1 q = .data xs) : (fun p => if p = q then .data xs else jf f1 f0 T p) = jf f1 f0 (T ++ [q]) := by
  funext p
  unfold jf
  by_cases e : p = q
  · subst e
    simp [h]
  · simp [e]
section
variable {f1 f' : List UInt8 → An} {R l : List (List UInt8)} {r : Option (List UInt8) × Ws × List (List UInt8)}
theorem just_tells (hon : ∀ q, nd f1 R q → f' q = f1 q) (hw : Whl9 f1 R) (ht : Tls f' R r) (hu : Up l) (hm : ∀ q, q ∈ l ↔ nd f1 R q) : picks r.2.1.B r.2.2 r.2.1.L = none ∧ canon r.2.1.N = l :=
  ⟨(whl_iff ht).2 (whl_on hon hw), up_uniq (up_canon _) hu (fun q => by rw [mem_canon, ht.N, nd_on hon, hm])⟩
theorem jf_on {f0 : List UInt8 → An} (hm : ∀ q, q ∈ l ↔ nd f1 R q) : ∀ q, nd f1 R q → jf f1 f0 l q = f1 q := fun q hq => by
  unfold jf
  rw [if_pos ((hm q).2 hq)]
/-- One of the need taken away. -/
theorem del_tells {f0 : List UInt8 → An} (hw : Whl9 f1 R) (hm : ∀ q, q ∈ l ↔ nd f1 R q) {q0 : List UInt8} (hq : q0 ∈ l) (ht : Tls (fun p => if p = q0 then .lack else jf f1 f0 l p) R r) :
    picks r.2.1.B r.2.2 r.2.1.L = some (102, q0) ∧ canon r.2.1.L = [q0] :=
  less_tells (f := jf f1 f0 l) (fun q hq => by simp [hq]) (by simp) (whl_on (jf_on hm) hw) ((nd_on (jf_on hm) q0).2 ((hm q0).1 hq)) ht
/-- What is needed is there. -/
theorem there_data (hf : ∀ q, f1 q ≠ .fail) (hw : Whl9 f1 R) (hm : ∀ q, q ∈ l ↔ nd f1 R q) : ∀ q, q ∈ l → ∃ xs, f1 q = .data xs := fun q hq => by
  cases hp : f1 q with
  | fail => exact absurd hp (hf q)
  | lack => exact absurd hp (hw.there q ((hm q).1 hq))
  | data xs => exact ⟨xs, rfl⟩
end
theorem need_le {M : List (List UInt8 × List UInt8)} {R l : List (List UInt8)} (hw : Whl9 (mpf M) R) (hu : Up l) (hm : ∀ q, q ∈ l ↔ nd (mpf M) R q) : l.length ≤ M.length := by
  have h := nodup_le (up_nodup9 hu) (m := M.map (·.1)) (fun q hq => by
    obtain ⟨xs, hx⟩ := there_data (mpf_nofail M) hw hm q hq
    exact List.mem_map.2 ⟨_, mpf_data hx, rfl⟩)
  rwa [List.length_map] at h
theorem wpList_del_run9 {ops : Array Oper} {rest : List Oper} {o : Oper} {a : Act} {w : World} {Q : Exit → Act → World → Prop} (hg : o.guard = none) (s x : Operand) (t t2 : TypeId) (ho : o.op = .call { callee := .builtin .delete, args := #[s, x], argTypes := #[t, t2] }) (vs vx : Value) (hs : a.eval s = vs) (hx : a.eval x = vx) (v' : Value) (w' : World)
    (hrun : (Builtin.delete_ #[t, t2] o.type #[vs, vx]).run Tryz.prog w = .ok v' w') (hK : wpList Tryz.prog ops Q rest (a.put o.dst v') w') : wpList Tryz.prog ops Q (o :: rest) a w := by
  refine wpList_plain hg fun K' hK' => ?_
  unfold Oper.wp
  simp [execOp, ho, resolve, invoke, builtin, hs, hx, hrun, Result.andThen]
  exact hK' _ _ hK
theorem wpList_buildIw9 {ops : Array Oper} {rest : List Oper} {o : Oper} {a : Act} {w : World} {Q : Exit → Act → World → Prop} (x : Operand) (ho : o.op = .buildSlice 35 1 #[(0, x)]) (i : List UInt8) (hx : a.eval x = .agg (bys i).toArray) (hi : i.length = 32) (hw : Region.wanted o (yielded ops a.tmps) = true)
    (h : wpList Tryz.prog ops Q rest (a.put o.dst (.slice (some ⟨w.heap.size, 0, none⟩) 1 1)) (w.alloc (.cells (bys i).toArray 25))) : wpList Tryz.prog ops Q (o :: rest) a w :=
  BigFrame.wpList_want hw fun _ hK => wp_buildI x ho i hx hi (hK _ _ h)
end Go.Proofs.YtngaimahhgmciaaGreatDoor
