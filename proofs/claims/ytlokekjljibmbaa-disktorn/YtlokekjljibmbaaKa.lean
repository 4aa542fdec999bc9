/-
  A disk whose things are numbered anew, those that are left alone: its twin, as mathematics.
-/
import Derived.Test.YtlokekjljibmbaaGc
namespace Go.Proofs.Ytlokekjljibmbaa
open Go.RowKit Dsk
set_option linter.unusedVariables false
set_option linter.unusedSimpArgs false
namespace Dsk
open Ds
namespace Nm
def ren (f : Nat → Nat) (l : Nm) : Nm := l.map (fun p => (p.1, f p.2))
theorem ren_ids (f : Nat → Nat) (l : Nm) : (l.ren f).ids = l.ids.map f := by simp [ren, ids, Function.comp_def]
theorem ren_del (f : Nat → Nat) (l : Nm) (n : By) : (l.ren f).del n = (l.del n).ren f := by
  simp only [ren, del, List.filter_map, Function.comp_def]
theorem ren_ins (f : Nat → Nat) (x : By × Nat) (l : Nm) : ins (x.1, f x.2) (l.ren f) = (ins x l).ren f := by
  induction l with
  | nil => rfl
  | cons y r ih =>
    show ins (x.1, f x.2) ((y.1, f y.2) :: ren f r) = ren f (ins x (y :: r))
    simp only [ins]
    by_cases h : bytesBefore x.1 y.1 = true
    · rw [if_pos h, if_pos h]; rfl
    · rw [if_neg h, if_neg h, ih]; rfl
theorem ren_put (f : Nat → Nat) (l : Nm) (n : By) (k : Nat) : (l.ren f).put n (f k) = (l.put n k).ren f := by
  unfold put
  rw [ren_del]
  exact ren_ins f (n, k) _
theorem ren_get (f : Nat → Nat) (l : Nm) (n : By) : (l.ren f).get n = (l.get n).map f := by
  unfold get ren
  rw [List.find?_map]
  simp only [Function.comp_def, Option.map_map]
theorem ren_up (f : Nat → Nat) {l : Nm} (h : l.Up) : (l.ren f).Up := by
  unfold ren Up
  rw [List.pairwise_map]
  exact h
theorem ren_len (f : Nat → Nat) (l : Nm) : (l.ren f).length = l.length := by simp [ren]
end Nm
namespace Nc
def ren (f : Nat → Nat) : Nc → Nc
  | .mk n k => .mk n (f k)
  | .gv a b => .gv a b
  | .tk n => .tk n
theorem ren_apply (f : Nat → Nat) (c : Nc) (l : Nm) : (c.ren f).apply (l.ren f) = (c.apply l).ren f := by
  cases c with
  | mk n k => exact Nm.ren_put f l n k
  | tk n => exact Nm.ren_del f l n
  | gv a b =>
    simp only [ren, apply]
    rw [Nm.ren_get]
    cases h : l.get a with
    | none => rfl
    | some k =>
      show ((l.ren f).put b (f k)).del a = _
      rw [Nm.ren_put, Nm.ren_del]
theorem ren_ok (f : Nat → Nat) (c : Nc) {l : Nm} (h : c.ok l) : (c.ren f).ok (l.ren f) := by
  cases c with
  | mk n k => trivial
  | tk n => trivial
  | gv a b =>
    obtain ⟨h1, k, h2⟩ := h
    exact ⟨h1, f k, by rw [Nm.ren_get, h2]; rfl⟩
theorem ren_made (f : Nat → Nat) (c : Nc) : (c.ren f).made = c.made.map f := by cases c <;> rfl
end Nc
theorem ren_run (f : Nat → Nat) (l : Nm) (r : List Nc) : runN (l.ren f) (r.map (Nc.ren f)) = (runN l r).ren f := by
  induction r generalizing l with
  | nil => rfl
  | cons c r ih => simp only [List.map_cons, runN, Nc.ren_apply, ih]
theorem ren_okN (f : Nat → Nat) (l : Nm) (r : List Nc) (h : okN l r) : okN (l.ren f) (r.map (Nc.ren f)) := by
  induction r generalizing l with
  | nil => trivial
  | cons c r ih => exact ⟨Nc.ren_ok f c h.1, by rw [Nc.ren_apply]; exact ih _ h.2⟩
theorem ren_madeN (f : Nat → Nat) (r : List Nc) : madeN (r.map (Nc.ren f)) = (madeN r).map f := by
  induction r with
  | nil => rfl
  | cons c r ih => simp only [List.map_cons, madeN_cons, Nc.ren_made, ih, List.map_append]

namespace Ds
def lives (S : Ds) : List Nat := S.safe.ids ++ madeN S.row
def rho (S : Ds) (k : Nat) : Nat := S.lives.idxOf k
def compact (S : Ds) : Ds := { S with safe := S.safe.ren S.rho, row := S.row.map (Nc.ren S.rho), shown := S.shown.ren S.rho, th := fun j => S.th (S.lives.getD j 0), nx := S.lives.length }
theorem rho_lt {S : Ds} {k : Nat} (h : k ∈ S.lives) : S.rho k < S.lives.length := List.idxOf_lt_length_of_mem h
theorem rho_back {S : Ds} {k : Nat} (h : k ∈ S.lives) : S.lives.getD (S.rho k) 0 = k := by
  rw [List.getD_eq_getElem?_getD, List.getElem?_eq_getElem (rho_lt h)]
  exact List.getElem_idxOf (rho_lt h)
theorem rho_inj {S : Ds} {j k : Nat} (hj : j ∈ S.lives) (hk : k ∈ S.lives) (h : S.rho j = S.rho k) : j = k := by
  rw [← rho_back hj, ← rho_back hk, h]
theorem compact_th {S : Ds} {k : Nat} (h : k ∈ S.lives) : S.compact.th (S.rho k) = S.th k := by
  show S.th _ = _
  rw [rho_back h]
theorem lives_map {S : Ds} (h : S.lives.Nodup) : (S.lives.map S.rho).Nodup := by
  unfold List.Nodup
  rw [List.pairwise_map]
  refine List.Pairwise.imp_of_mem ?_ h
  intro a b ha hb hne e
  exact hne (rho_inj ha hb e)
theorem shown_lives {S : Ds} (hw : S.Wf) {p : By × Nat} (hp : p ∈ S.shown) : p.2 ∈ S.lives := by
  have : p.2 ∈ S.shown.ids := List.mem_map.2 ⟨p, hp, rfl⟩
  rw [hw.shown] at this
  exact runN_ids_sub _ this
theorem safe_lives {S : Ds} {p : By × Nat} (hp : p ∈ S.safe) : p.2 ∈ S.lives := List.mem_append_left _ (List.mem_map.2 ⟨p, hp, rfl⟩)
theorem compact_ids (S : Ds) : S.compact.safe.ids ++ madeN S.compact.row = S.lives.map S.rho := by
  show (S.safe.ren S.rho).ids ++ madeN (S.row.map (Nc.ren S.rho)) = _
  rw [Nm.ren_ids, ren_madeN, ← List.map_append]
  rfl
theorem Wf.compact {S : Ds} (h : S.Wf) : S.compact.Wf := by
  refine ⟨h.room, Nm.ren_up _ h.up, ?_, ren_okN _ _ _ h.ok, by rw [compact_ids]; exact lives_map h.nodup, fun k hk => ?_, fun p hp => ?_, fun c hc => ?_, fun k hk => ?_⟩
  · show S.shown.ren S.rho = runN (S.safe.ren S.rho) (S.row.map (Nc.ren S.rho))
    rw [ren_run, ← h.shown]
  · rw [compact_ids] at hk
    obtain ⟨j, hj, rfl⟩ := List.mem_map.1 hk
    exact rho_lt hj
  · obtain ⟨q, hq, rfl⟩ := List.mem_map.1 hp
    exact h.nm q hq
  · obtain ⟨d, hd, rfl⟩ := List.mem_map.1 hc
    have := h.nmr d hd
    cases d <;> exact this
  · have hm : S.lives.getD k 0 ∈ S.lives := by
      rw [List.getD_eq_getElem?_getD, List.getElem?_eq_getElem hk]
      exact List.getElem_mem _
    exact h.th _ (h.lt _ hm)
theorem Bd.compact {S : Ds} {N : Nat} (h : S.Bd N) (hw : S.Wf) : S.compact.Bd N := by
  refine ⟨?_, fun k hk => ?_, h.reads, h.strokes, h.planned⟩
  · show (S.safe.ren S.rho).length + (S.row.map (Nc.ren S.rho)).length ≤ N
    rw [Nm.ren_len, List.length_map]
    exact h.nm
  · have hm : S.lives.getD k 0 ∈ S.lives := by
      rw [List.getD_eq_getElem?_getD, List.getElem?_eq_getElem hk]
      exact List.getElem_mem _
    exact h.th _ (hw.lt _ hm)
theorem compact_files {S : Ds} (hw : S.Wf) : S.compact.files = S.files := by
  show (S.shown.ren S.rho).map (fun p => (p.1, (S.compact.th p.2).shown)) = S.shown.map _
  unfold Nm.ren
  rw [List.map_map]
  apply List.map_congr_left
  intro p hp
  simp only [Function.comp_def]
  rw [compact_th (shown_lives hw hp)]
theorem compact_safeFiles {S : Ds} : S.compact.safeFiles = S.safeFiles := by
  show (S.safe.ren S.rho).map (fun p => (p.1, (S.compact.th p.2).safe)) = S.safe.map _
  unfold Nm.ren
  rw [List.map_map]
  apply List.map_congr_left
  intro p hp
  simp only [Function.comp_def]
  rw [compact_th (safe_lives hp)]
theorem crashTh_ren (ps : List Int) (f : Nat → Nat) (L : List Nat) (hf : ∀ j ∈ L, ∀ k ∈ L, f j = f k → j = k) (i : Nat) (l : Nm) (hl : ∀ p ∈ l, p.2 ∈ L) (th th' : Nat → Th) (ht : ∀ k ∈ L, th' (f k) = th k) : ∀ k ∈ L, crashTh ps i (l.ren f) th' (f k) = crashTh ps i l th k := by
  induction l generalizing i th th' with
  | nil => exact ht
  | cons x r ih =>
    have hx : x.2 ∈ L := hl x (by simp)
    show ∀ k ∈ L, crashTh ps (i + 1) (Nm.ren f r) (upd th' (f x.2) ((th' (f x.2)).crash (ps.getD (i + 1) 0))) (f k) = crashTh ps (i + 1) r (upd th x.2 ((th x.2).crash (ps.getD (i + 1) 0))) k
    refine ih (i + 1) (fun p hp => hl p (by simp [hp])) _ _ (fun k hk => ?_)
    by_cases e : k = x.2
    · rw [e, upd_same, upd_same, ht _ hx]
    · rw [upd_other _ _ e, upd_other _ _ (fun h => e (hf k hk _ hx h)), ht k hk]
theorem compact_crashNm {S : Ds} (ps : List Int) : S.compact.crashNm ps = (S.crashNm ps).ren S.rho := by
  unfold crashNm
  show runN (S.safe.ren S.rho) ((S.row.map (Nc.ren S.rho)).take (rnd (ps.getD 0 0) (S.row.map (Nc.ren S.rho)).length)) = _
  rw [List.length_map, ← List.map_take, ren_run]
theorem crash_lives {S : Ds} (ps : List Int) {p : By × Nat} (hp : p ∈ S.crashNm ps) : p.2 ∈ S.lives := by
  have h1 : p.2 ∈ (S.crashNm ps).ids := List.mem_map.2 ⟨p, hp, rfl⟩
  have h2 := runN_ids_sub _ h1
  rcases List.mem_append.1 h2 with h | h
  · exact List.mem_append_left _ h
  · exact List.mem_append_right _ ((made_take S.row _).subset h)
theorem compact_crash {S : Ds} (ps : List Int) : (S.compact.crash ps).files = (S.crash ps).files ∧ (S.compact.crash ps).safeFiles = (S.crash ps).safeFiles := by
  have key : ∀ p ∈ S.crashNm ps, crashTh ps 0 (S.compact.crashNm ps) S.compact.th (S.rho p.2) = crashTh ps 0 (S.crashNm ps) S.th p.2 := fun p hp => by
    rw [compact_crashNm]
    exact crashTh_ren ps S.rho S.lives (fun j hj k hk e => rho_inj hj hk e) 0 _ (fun q hq => crash_lives ps hq) _ _ (fun k hk => compact_th hk) _ (crash_lives ps hp)
  constructor
  · show (S.compact.crashNm ps).map (fun p => (p.1, (crashTh ps 0 (S.compact.crashNm ps) S.compact.th p.2).shown)) = (S.crashNm ps).map (fun p => (p.1, (crashTh ps 0 (S.crashNm ps) S.th p.2).shown))
    rw [show (S.compact.crashNm ps).map (fun p => (p.1, (crashTh ps 0 (S.compact.crashNm ps) S.compact.th p.2).shown)) = ((S.crashNm ps).ren S.rho).map (fun p => (p.1, (crashTh ps 0 (S.compact.crashNm ps) S.compact.th p.2).shown)) by rw [compact_crashNm]]
    unfold Nm.ren
    rw [List.map_map]
    apply List.map_congr_left
    intro p hp
    simp only [Function.comp_def]
    rw [key p hp]
  · show (S.compact.crashNm ps).map (fun p => (p.1, (crashTh ps 0 (S.compact.crashNm ps) S.compact.th p.2).safe)) = (S.crashNm ps).map (fun p => (p.1, (crashTh ps 0 (S.crashNm ps) S.th p.2).safe))
    rw [show (S.compact.crashNm ps).map (fun p => (p.1, (crashTh ps 0 (S.compact.crashNm ps) S.compact.th p.2).safe)) = ((S.crashNm ps).ren S.rho).map (fun p => (p.1, (crashTh ps 0 (S.compact.crashNm ps) S.compact.th p.2).safe)) by rw [compact_crashNm]]
    unfold Nm.ren
    rw [List.map_map]
    apply List.map_congr_left
    intro p hp
    simp only [Function.comp_def]
    rw [key p hp]
end Ds
end Dsk
end Go.Proofs.Ytlokekjljibmbaa
