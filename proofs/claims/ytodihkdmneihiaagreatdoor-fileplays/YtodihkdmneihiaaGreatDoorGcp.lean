import Derived.Test.YtodihkdmneihiaaGreatDoorMemp
import Derived.Sort.EncStr
import Derived.Sort.KeysCollected
import Derived.Maps.Views
namespace Go.Proofs.YtodihkdmneihiaaGreatDoor
section
set_option linter.unusedVariables false
set_option linter.unusedSimpArgs false
namespace Dsk
namespace Nm
theorem ids_del_sub (l : Nm) (n : By) : (l.del n).ids.Sublist l.ids := List.filter_sublist.map _
theorem ids_put_perm (l : Nm) (n : By) (k : Nat) : (l.put n k).ids.Perm (k :: (l.del n).ids) := by
 have := (ins_perm (n, k) (l.del n)).map (fun p : By × Nat => p.2)
 exact this
theorem mem_ids {l : Nm} {k : Nat} : k ∈ l.ids ↔ ∃ n, (n, k) ∈ l := by
 simp [ids]
end Nm
theorem madeN_cons (c : Nc) (r : List Nc) : madeN (c :: r) = c.made ++ madeN r := by simp [madeN]
theorem madeN_append (r s : List Nc) : madeN (r ++ s) = madeN r ++ madeN s := by simp [madeN]
theorem madeN_snoc (r : List Nc) (c : Nc) : madeN (r ++ [c]) = madeN r ++ c.made := by rw [madeN_append]; simp [madeN]
theorem apply_ids_sub {l : Nm} (c : Nc) {k : Nat} (h : k ∈ (c.apply l).ids) : k ∈ l.ids ++ c.made := by
 cases c with
 | mk n j =>
  have := (l.ids_put_perm n j).mem_iff.1 h
  rcases List.mem_cons.1 this with rfl | h1
  ·simp [Nc.made]
  ·exact List.mem_append_left _ ((l.ids_del_sub n).subset h1)
 | gv f t =>
  simp only [Nc.apply] at h
  refine List.mem_append_left _ ?_
  cases hg : l.get f with
  | none => rw [hg] at h; exact h
  | some j =>
   rw [hg] at h
   have h1 := ((l.put t j).ids_del_sub f).subset h
   have := (l.ids_put_perm t j).mem_iff.1 h1
   rcases List.mem_cons.1 this with rfl | h2
   ·simp only [Nm.get, Option.map_eq_some_iff] at hg
    obtain ⟨p, hp, e⟩ := hg
    have := List.mem_of_find?_eq_some hp
    exact List.mem_map.2 ⟨p, this, e⟩
   ·exact (l.ids_del_sub t).subset h2
 | tk n => exact List.mem_append_left _ ((l.ids_del_sub n).subset h)
theorem apply_ids_nodup {l : Nm} (hup : l.Up) (c : Nc) (hok : c.ok l) (h : (l.ids ++ c.made).Nodup) : (c.apply l).ids.Nodup := by
 cases c with
 | mk n j =>
  rw [show (Nc.mk n j).apply l = l.put n j from rfl, (l.ids_put_perm n j).nodup_iff]
  simp only [Nc.made, List.nodup_append, List.mem_singleton] at h
  refine List.nodup_cons.2 ⟨fun hm => ?_, h.1.sublist (l.ids_del_sub n)⟩
  exact h.2.2 _ ((l.ids_del_sub n).subset hm) _ rfl rfl
 | gv f t =>
  obtain ⟨hne, j, hg⟩ := hok
  have hl : l.ids.Nodup := by simpa [Nc.made] using h
  have e : (Nc.gv f t).apply l = (l.del f).put t j := by simp only [Nc.apply, hg]; exact Nm.put_del hup hne j
  rw [e, ((l.del f).ids_put_perm t j).nodup_iff]
  have hmem := (Nm.get_some hup).1 hg
  refine List.nodup_cons.2 ⟨fun hm => ?_, hl.sublist (((l.del f).ids_del_sub t).trans (l.ids_del_sub f))⟩
  have h1 := ((l.del f).ids_del_sub t).subset hm
  obtain ⟨n, hn⟩ := Nm.mem_ids.1 h1
  obtain ⟨h2, h3⟩ := Nm.mem_del.1 hn
  clear e hm h1 hn
  induction l with
  | nil => simp at h2
  | cons x r ih =>
   have hl' := List.nodup_cons.1 hl
   rcases List.mem_cons.1 h2 with e1 | h2 <;> rcases List.mem_cons.1 hmem with e2 | h4
   ·rw [← e1] at e2; injection e2 with e2 _; exact h3 e2.symm
   ·exact hl'.1 (by rw [← e1]; exact Nm.mem_ids.2 ⟨_, h4⟩)
   ·exact hl'.1 (by rw [← e2]; exact Nm.mem_ids.2 ⟨_, h2⟩)
   ·refine ih (List.pairwise_cons.1 hup).2 (by simp only [Nc.made, List.append_nil]; exact hl'.2) ?_ hl'.2 h4 h2
    exact (Nm.get_some (List.pairwise_cons.1 hup).2).2 h4
 | tk n => exact (by simpa [Nc.made] using h : l.ids.Nodup).sublist (l.ids_del_sub n)
theorem runN_ids_sub {l : Nm} (r : List Nc) {k : Nat} (h : k ∈ (runN l r).ids) : k ∈ l.ids ++ madeN r := by
 induction r generalizing l with
 | nil => simpa [runN, madeN] using h
 | cons c r ih =>
  rw [madeN_cons]
  have := ih h
  rcases List.mem_append.1 this with h1 | h1
  ·have := apply_ids_sub c h1
   rcases List.mem_append.1 this with h2 | h2
   ·exact List.mem_append_left _ h2
   ·exact List.mem_append_right _ (List.mem_append_left _ h2)
  ·exact List.mem_append_right _ (List.mem_append_right _ h1)
theorem runN_ids_nodup {l : Nm} (hup : l.Up) (r : List Nc) (hok : okN l r) (h : (l.ids ++ madeN r).Nodup) : (runN l r).ids.Nodup := by
 induction r generalizing l with
 | nil => simpa [runN, madeN] using h
 | cons c r ih =>
  rw [madeN_cons, ← List.append_assoc] at h
  have h' := List.nodup_append.1 h
  refine ih (apply_up hup c) hok.2 (List.nodup_append.2 ⟨apply_ids_nodup hup c hok.1 h'.1, h'.2.1, fun a ha b hb => h'.2.2 a (apply_ids_sub c ha) b hb⟩)
def nmc : Nc → Prop
 | .mk n _ => isNm n = true
 | .gv f t => isNm f = true ∧ isNm t = true
 | .tk n => isNm n = true
theorem apply_nm {l : Nm} (c : Nc) (h : ∀ p ∈ l, isNm p.1 = true) (hc : nmc c) : ∀ p ∈ c.apply l, isNm p.1 = true := by
 intro p hp
 cases c with
 | mk n k =>
  rcases Nm.mem_put.1 hp with rfl | ⟨h1, _⟩
  ·exact hc
  ·exact h p h1
 | gv f t =>
  simp only [Nc.apply] at hp
  cases hg : l.get f with
  | none => rw [hg] at hp; exact h p hp
  | some j =>
   rw [hg] at hp
   rcases Nm.mem_put.1 (Nm.mem_del.1 hp).1 with rfl | ⟨h1, _⟩
   ·exact hc.2
   ·exact h p h1
 | tk n => exact h p (Nm.mem_del.1 hp).1
theorem runN_nm {l : Nm} (r : List Nc) (h : ∀ p ∈ l, isNm p.1 = true) (hr : ∀ c ∈ r, nmc c) : ∀ p ∈ runN l r, isNm p.1 = true := by
 induction r generalizing l with
 | nil => exact h
 | cons c r ih => exact ih (apply_nm c h (hr c (by simp))) (fun d hd => hr d (by simp [hd]))
namespace Ds
theorem Wf.nmr' {S : Ds} (h : S.Wf) : ∀ c ∈ S.row, nmc c := fun c hc => by
 have := h.nmr c hc
 cases c <;> exact this
theorem Wf.sup {S : Ds} (h : S.Wf) : S.shown.Up := by rw [h.shown]; exact runN_up h.up _
theorem Wf.sids {S : Ds} (h : S.Wf) : S.shown.ids.Nodup := by rw [h.shown]; exact runN_ids_nodup h.up _ h.ok h.nodup
theorem Wf.slt {S : Ds} (h : S.Wf) {n : By} {k : Nat} (hk : (n, k) ∈ S.shown) : k < S.nx := by
 rw [h.shown] at hk
 exact h.lt k (runN_ids_sub _ (Nm.mem_ids.2 ⟨n, hk⟩))
theorem Wf.snm {S : Ds} (h : S.Wf) : ∀ p ∈ S.shown, isNm p.1 = true := by rw [h.shown]; exact runN_nm _ h.nm h.nmr'
theorem Bd.shown {S : Ds} {N : Nat} (h : S.Bd N) (hw : S.Wf) : S.shown.length ≤ N := by
 rw [hw.shown]
 exact Nat.le_trans (runN_len _ _) h.nm
theorem Bd.len {S : Ds} {N : Nat} (h : S.Bd N) (hw : S.Wf) {k : Nat} (hk : k < S.nx) : (S.th k).shown.length ≤ N := by
 rw [(hw.th k hk).2]
 have h1 := runs_len _ _ (hw.th k hk).1
 have h2 := h.th k hk
 omega
theorem Bd.mono {S : Ds} {N M : Nat} (h : S.Bd N) (hm : N ≤ M) : S.Bd M :=
 ⟨Nat.le_trans h.nm hm, fun k hk => Nat.le_trans (h.th k hk) hm, Nat.le_trans h.reads hm, Nat.le_trans h.strokes hm, Nat.le_trans h.planned hm⟩
theorem find_ok {S : Ds} (h : S.Wf) {n : By} (h0 : (S.find n).1 = 0) : S.on = true ∧ isNm n = true ∧ (n, (S.find n).2) ∈ S.shown ∧ (S.find n).2 < S.nx := by
 unfold find at *
 by_cases ho : S.on = true
 ·by_cases hn : isNm n = true
  ·simp only [ho, hn, if_true] at *
   cases hg : S.shown.get n with
   | none => simp [hg] at h0
   | some k =>
    simp only [hg]
    have := (Nm.get_some h.sup).1 hg
    exact ⟨trivial, trivial, this, h.slt this⟩
  ·simp [ho, hn] at h0
 ·simp [ho] at h0
theorem find_none {S : Ds} {n : By} (h0 : (S.find n).1 = 53) : S.on = true ∧ isNm n = true ∧ S.shown.get n = none := by
 unfold find at *
 by_cases ho : S.on = true
 ·by_cases hn : isNm n = true
  ·simp only [ho, hn, if_true] at *
   cases hg : S.shown.get n with
   | none => exact ⟨trivial, trivial, rfl⟩
   | some k => simp [hg] at h0
  ·simp [ho, hn] at h0
 ·simp [ho] at h0
theorem Wf.tick {S : Ds} (h : S.Wf) : S.tick.Wf := ⟨h.room, h.up, h.shown, h.ok, h.nodup, h.lt, h.nm, h.nmr, h.th⟩
theorem Bd.tick {S : Ds} {N : Nat} (h : S.Bd N) : S.tick.Bd (N + 1) :=
 ⟨Nat.le_succ_of_le h.nm, fun k hk => Nat.le_succ_of_le (h.th k hk), Nat.le_succ_of_le h.reads, Nat.succ_le_succ h.strokes, Nat.succ_le_succ h.planned⟩
theorem Wf.addName {S : Ds} (h : S.Wf) {c : Nc} (hok : c.ok S.shown) (hm : ∀ k ∈ c.made, k < S.nx ∧ k ∉ S.safe.ids ++ madeN S.row) (hn : c.made.Nodup) (hc : nmc c) : (S.addName c).Wf := by
 refine ⟨h.room, h.up, ?_, ?_, ?_, ?_, h.nm, ?_, h.th⟩
 ·show c.apply S.shown = runN S.safe (S.row ++ [c])
  rw [runN_snoc, ← h.shown]
 ·exact (okN_snoc _ _ _).2 ⟨h.ok, by show c.ok (runN S.safe S.row); rw [← h.shown]; exact hok⟩
 ·show (S.safe.ids ++ madeN (S.row ++ [c])).Nodup
  rw [madeN_snoc, ← List.append_assoc]
  exact List.nodup_append.2 ⟨h.nodup, hn, fun a ha b hb e => (hm b hb).2 (e ▸ ha)⟩
 ·intro k hk
  have hk' : k ∈ S.safe.ids ++ madeN (S.row ++ [c]) := hk
  rw [madeN_snoc, ← List.append_assoc] at hk'
  rcases List.mem_append.1 hk' with h1 | h1
  ·exact h.lt k h1
  ·exact (hm k h1).1
 ·intro d hd
  rcases List.mem_append.1 hd with h1 | h1
  ·exact h.nmr d h1
  ·simp only [List.mem_singleton] at h1
   subst h1
   cases d <;> exact hc
theorem Bd.addName {S : Ds} {N : Nat} (h : S.Bd N) (c : Nc) : (S.addName c).Bd (N + 1) := by
 refine ⟨?_, fun k hk => Nat.le_succ_of_le (h.th k hk), Nat.le_succ_of_le h.reads, Nat.le_succ_of_le h.strokes, Nat.le_succ_of_le h.planned⟩
 show S.safe.length + (S.row ++ [c]).length ≤ N + 1
 have := h.nm
 simp only [List.length_append, List.length_singleton]
 omega
theorem Wf.addByte {S : Ds} (h : S.Wf) {k : Nat} {c : Ch} (hc : c.place ≤ (S.th k).shown.length) (hk : k < S.nx) : (S.addByte k c).Wf := by
 refine ⟨h.room, h.up, h.shown, h.ok, h.nodup, h.lt, h.nm, h.nmr, fun j hj => ?_⟩
 show (upd S.th k _ j).ok
 by_cases e : j = k
 ·subst e; rw [upd_same]; exact (h.th j hk).change hc
 ·rw [upd_other _ _ e]; exact h.th j hj
theorem Bd.addByte {S : Ds} {N : Nat} (h : S.Bd N) (k : Nat) (c : Ch) : (S.addByte k c).Bd (N + c.units + 1) := by
 refine ⟨by have := h.nm; show S.safe.length + S.row.length ≤ _; omega, fun j hj => ?_, by have := h.reads; show S.reads.length ≤ _; omega, by have := h.strokes; show S.strokes ≤ _; omega, by have := h.planned; show S.planned ≤ _; omega⟩
 show (upd S.th k _ j).safe.length + unitsOf (upd S.th k _ j).row + (upd S.th k _ j).row.length ≤ _
 have := h.th j hj
 by_cases e : j = k
 ·subst e
  rw [upd_same]
  simp only [Th.change, unitsOf_snoc, List.length_append, List.length_singleton]
  omega
 ·rw [upd_other _ _ e]; omega
theorem Wf.fresh {room : Nat} (h : 1 ≤ room ∧ room ≤ 1048576) : (fresh room).Wf :=
 ⟨h, List.Pairwise.nil, rfl, trivial, List.nodup_nil, by simp [Ds.fresh, Nm.ids, madeN], by simp [Ds.fresh], by simp [Ds.fresh], fun k hk => Th.new_ok⟩
theorem Bd.fresh (room : Nat) : (fresh room).Bd 0 := ⟨Nat.le_refl _, fun k hk => Nat.le_refl _, Nat.le_refl _, Nat.le_refl _, Nat.le_refl _⟩
theorem Wf.create {S : Ds} (h : S.Wf) (n : By) : (S.create n).2.Wf := by
 unfold Ds.create
 split
 ·exact h
 split
 ·exact h
 rename_i h1 h2
 have h3 := find_none (S := S) (n := n) (by omega)
 split
 ·refine Wf.addName (S := ({ S.tick with th := upd S.th S.nx Th.new, nx := S.nx + 1 } : Ds)) ?_ trivial ?_ (by simp [Nc.made]) h3.2.1
  ·refine ⟨h.room, h.up, h.shown, h.ok, h.nodup, fun k hk => Nat.lt_succ_of_lt (h.lt k hk), h.nm, h.nmr, fun k hk => ?_⟩
   show (upd S.th S.nx Th.new k).ok
   have hk' : k < S.nx + 1 := hk
   by_cases e : k = S.nx
   ·subst e; rw [upd_same]; exact Th.new_ok
   ·rw [upd_other _ _ e]; exact h.th k (by omega)
  ·intro k hk
   simp only [Nc.made, List.mem_singleton] at hk
   subst hk
   exact ⟨Nat.lt_succ_self _, fun hm => Nat.lt_irrefl _ (h.lt _ hm)⟩
 ·exact h.tick
theorem Bd.create {S : Ds} {N : Nat} (h : S.Bd N) (n : By) : (S.create n).2.Bd (N + 1) := by
 unfold Ds.create
 split
 ·exact h.mono (by omega)
 split
 ·exact h.mono (by omega)
 split
 ·refine ⟨?_, fun k hk => ?_, Nat.le_succ_of_le h.reads, Nat.succ_le_succ h.strokes, Nat.succ_le_succ h.planned⟩
  ·show S.safe.length + (S.row ++ [_]).length ≤ N + 1
   have := h.nm
   simp only [List.length_append, List.length_singleton]
   omega
  ·show (upd S.th S.nx Th.new k).safe.length + unitsOf (upd S.th S.nx Th.new k).row + (upd S.th S.nx Th.new k).row.length ≤ N + 1
   have hk' : k < S.nx + 1 := hk
   by_cases e : k = S.nx
   ·subst e; rw [upd_same]; simp [Th.new, unitsOf]
   ·rw [upd_other _ _ e]; have := h.th k (by omega); omega
 ·exact h.tick
theorem Wf.write {S : Ds} (h : S.Wf) {k a : Nat} (d : By) (hk : k < S.nx) (ha : a ≤ (S.th k).shown.length) : (S.write k a d).2.Wf := by
 unfold Ds.write
 split
 ·exact h.tick
 ·exact Wf.addByte h.tick (c := .wr a d) ha hk
theorem Bd.write {S : Ds} {N : Nat} (h : S.Bd N) (k a : Nat) (d : By) : (S.write k a d).2.Bd (N + d.length + 2) := by
 unfold Ds.write
 split
 ·exact h.tick.mono (by omega)
 ·exact (h.tick.addByte k (.wr a d)).mono (by simp only [Ch.units]; omega)
theorem Wf.writeAt {S : Ds} (h : S.Wf) (n : By) (a : Int) (d : By) : (S.writeAt n a d).2.Wf := by
 unfold Ds.writeAt
 split
 ·exact h
 split
 ·exact h
 rename_i h1 h2
 exact h.write d (find_ok h (by simpa using h1)).2.2.2 (by omega)
theorem Bd.writeAt {S : Ds} {N : Nat} (h : S.Bd N) (n : By) (a : Int) (d : By) : (S.writeAt n a d).2.Bd (N + d.length + 2) := by
 unfold Ds.writeAt
 split
 ·exact h.mono (by omega)
 split
 ·exact h.mono (by omega)
 exact h.write _ _ _
theorem Wf.append {S : Ds} (h : S.Wf) (n d : By) : (S.append n d).2.Wf := by
 unfold Ds.append
 split
 ·exact h
 rename_i h1
 exact h.write d (find_ok h (by simpa using h1)).2.2.2 (Nat.le_refl _)
theorem Bd.append {S : Ds} {N : Nat} (h : S.Bd N) (n d : By) : (S.append n d).2.Bd (N + d.length + 2) := by
 unfold Ds.append
 split
 ·exact h.mono (by omega)
 exact h.write _ _ _
theorem Wf.truncate {S : Ds} (h : S.Wf) (n : By) (a : Int) : (S.truncate n a).2.Wf := by
 unfold Ds.truncate
 split
 ·exact h
 split
 ·exact h
 rename_i h1 h2
 exact Wf.addByte h.tick (c := .cut a.toNat) (by show a.toNat ≤ (S.th _).shown.length; omega) (find_ok h (by simpa using h1)).2.2.2
theorem Bd.truncate {S : Ds} {N : Nat} (h : S.Bd N) (n : By) (a : Int) : (S.truncate n a).2.Bd (N + 3) := by
 unfold Ds.truncate
 split
 ·exact h.mono (by omega)
 split
 ·exact h.mono (by omega)
 exact (h.tick.addByte _ (.cut a.toNat)).mono (by simp only [Ch.units]; omega)
theorem Wf.rename {S : Ds} (h : S.Wf) (f t : By) : (S.rename f t).2.Wf := by
 unfold Ds.rename
 split
 ·split
  ·rename_i h0 hn
   split
   ·exact h
   split
   ·exact h.tick
   rename_i h1 h2
   have h3 := find_ok h (by simpa using h1)
   exact Wf.addName h.tick (c := .gv f t) ⟨h2, _, (Nm.get_some h.sup).2 h3.2.2.1⟩ (by simp [Nc.made]) (by simp [Nc.made]) ⟨h3.2.1, hn⟩
  ·exact h
 ·exact h
theorem Bd.rename {S : Ds} {N : Nat} (h : S.Bd N) (f t : By) : (S.rename f t).2.Bd (N + 2) := by
 unfold Ds.rename
 split
 ·split
  ·split
   ·exact h.mono (by omega)
   split
   ·exact h.tick.mono (by omega)
   exact h.tick.addName _
  ·exact h.mono (by omega)
 ·exact h.mono (by omega)
theorem Wf.remove {S : Ds} (h : S.Wf) (n : By) : (S.remove n).2.Wf := by
 unfold Ds.remove
 split
 ·exact h
 rename_i h1
 exact Wf.addName h.tick (c := .tk n) trivial (by simp [Nc.made]) (by simp [Nc.made]) (find_ok h (by simpa using h1)).2.1
theorem Bd.remove {S : Ds} {N : Nat} (h : S.Bd N) (n : By) : (S.remove n).2.Bd (N + 2) := by
 unfold Ds.remove
 split
 ·exact h.mono (by omega)
 exact h.tick.addName _
theorem Wf.sync {S : Ds} (h : S.Wf) (n : By) : (S.sync n).2.Wf := by
 unfold Ds.sync
 split
 ·exact h
 split
 ·exact h.tick
 refine ⟨h.room, h.up, h.shown, h.ok, h.nodup, h.lt, h.nm, h.nmr, fun j hj => ?_⟩
 show (upd S.th _ _ j).ok
 by_cases e : j = (S.find n).2
 ·subst e; rw [upd_same]; exact Th.sync_ok _
 ·rw [upd_other _ _ e]; exact h.th j hj
theorem Bd.sync {S : Ds} {N : Nat} (h : S.Bd N) (hw : S.Wf) (n : By) : (S.sync n).2.Bd (N + 1) := by
 unfold Ds.sync
 split
 ·exact h.mono (by omega)
 split
 ·exact h.tick
 refine ⟨h.tick.nm, fun j hj => ?_, h.tick.reads, h.tick.strokes, h.tick.planned⟩
 show (upd S.th _ _ j).safe.length + unitsOf (upd S.th _ _ j).row + (upd S.th _ _ j).row.length ≤ N + 1
 by_cases e : j = (S.find n).2
 ·subst e
  rw [upd_same]
  have := h.len hw hj
  simp only [Th.sync, unitsOf, List.length_nil]
  omega
 ·rw [upd_other _ _ e]; have := h.th j hj; omega
theorem Wf.syncNames {S : Ds} (h : S.Wf) : (S.syncNames).2.Wf := by
 unfold Ds.syncNames
 split
 ·split
  ·exact h.tick
  ·exact ⟨h.room, h.sup, rfl, trivial, by simpa [madeN] using h.sids, fun k hk => by
    have hk' : k ∈ S.shown.ids := by simpa [madeN] using hk
    obtain ⟨n, hn⟩ := Nm.mem_ids.1 hk'
    exact h.slt hn, h.snm, by simp, h.th⟩
 ·exact h
theorem Bd.syncNames {S : Ds} {N : Nat} (h : S.Bd N) (hw : S.Wf) : (S.syncNames).2.Bd (N + 1) := by
 unfold Ds.syncNames
 split
 ·split
  ·exact h.tick
  ·exact ⟨by have := h.shown hw; show S.shown.length + 0 ≤ _; omega, fun k hk => Nat.le_succ_of_le (h.th k hk), h.tick.reads, h.tick.strokes, h.tick.planned⟩
 ·exact h.mono (by omega)
theorem Wf.read {S : Ds} (h : S.Wf) (n : By) (a m : Int) : (S.read n a m).Wf := by
 unfold Ds.read
 split
 ·exact ⟨h.room, h.up, h.shown, h.ok, h.nodup, h.lt, h.nm, h.nmr, h.th⟩
 ·exact h
theorem Bd.read {S : Ds} {N : Nat} (h : S.Bd N) (n : By) (a m : Int) : (S.read n a m).Bd (N + 1) := by
 unfold Ds.read
 split
 ·refine ⟨Nat.le_succ_of_le h.nm, fun k hk => Nat.le_succ_of_le (h.th k hk), ?_, Nat.le_succ_of_le h.strokes, Nat.le_succ_of_le h.planned⟩
  show (S.reads ++ [_]).length ≤ N + 1
  have := h.reads
  simp only [List.length_append, List.length_singleton]
  omega
 ·exact h.mono (by omega)
theorem Wf.setPlan {S : Ds} (h : S.Wf) (o f t : Int) : (S.setPlan o f t).Wf := by
 unfold Ds.setPlan
 split
 ·exact ⟨h.room, h.up, h.shown, h.ok, h.nodup, h.lt, h.nm, h.nmr, h.th⟩
 ·exact h
theorem Bd.setPlan {S : Ds} {N : Nat} (h : S.Bd N) (o f t : Int) : (S.setPlan o f t).Bd N := by
 unfold Ds.setPlan
 split
 ·exact ⟨h.nm, h.th, h.reads, h.strokes, Nat.zero_le _⟩
 ·exact h
theorem Wf.look {S : Ds} (h : S.Wf) : S.look.Wf := ⟨h.room, h.up, h.shown, h.ok, h.nodup, h.lt, h.nm, h.nmr, h.th⟩
theorem Bd.look {S : Ds} {N : Nat} (h : S.Bd N) : S.look.Bd N := ⟨h.nm, h.th, Nat.zero_le _, h.strokes, h.planned⟩
theorem crashTh_or (ps : List Int) (i : Nat) (l : Nm) (th : Nat → Th) (k : Nat) : crashTh ps i l th k = th k ∨ ∃ t p, crashTh ps i l th k = Th.crash t p := by
 induction l generalizing i th with
 | nil => exact .inl rfl
 | cons x r ih =>
  simp only [crashTh]
  rcases ih (i + 1) (upd th x.2 ((th x.2).crash (ps.getD (i + 1) 0))) with h | h
  ·rw [h]
   by_cases e : k = x.2
   ·subst e; rw [upd_same]; exact .inr ⟨_, _, rfl⟩
   ·rw [upd_other _ _ e]; exact .inl rfl
  ·exact .inr h
theorem crashTh_not (ps : List Int) (i : Nat) (l : Nm) (th : Nat → Th) (k : Nat) (hk : k ∉ l.ids) : crashTh ps i l th k = th k := by
 induction l generalizing i th with
 | nil => rfl
 | cons x r ih =>
  simp only [Nm.ids, List.map_cons, List.mem_cons, not_or] at hk
  simp only [crashTh]
  rw [ih (i + 1) _ hk.2, upd_other _ _ hk.1]
theorem crashTh_cons (ps : List Int) (i : Nat) (x : By × Nat) (r : Nm) (th : Nat → Th) (hx : x.2 ∉ r.ids) : crashTh ps i (x :: r) th x.2 = (th x.2).crash (ps.getD (i + 1) 0) := by
 simp only [crashTh]
 rw [crashTh_not _ _ _ _ _ hx, upd_same]
theorem crashTh_len (ps : List Int) (i : Nat) (l : Nm) (th : Nat → Th) (N : Nat) (hl : l.ids.Nodup) (hok : ∀ k ∈ l.ids, (th k).ok) (h : ∀ k, k ∈ l.ids → (th k).safe.length + unitsOf (th k).row + (th k).row.length ≤ N) :
  ∀ k ∈ l.ids, (crashTh ps i l th k).safe.length + unitsOf (crashTh ps i l th k).row + (crashTh ps i l th k).row.length ≤ N := by
 induction l generalizing i th with
 | nil => simp [Nm.ids]
 | cons x r ih =>
  intro k hk
  have hn := List.nodup_cons.1 hl
  by_cases e : k = x.2
  ·subst e
   rw [crashTh_cons _ _ _ _ _ hn.1]
   have h1 := torn_len (th x.2).safe (th x.2).row (rnd (ps.getD (i + 1) 0) (unitsOf (th x.2).row)) (hok x.2 (by simp [Nm.ids])).1
   have h2 := h x.2 (by simp [Nm.ids])
   simp only [Th.crash, unitsOf, List.length_nil]
   omega
  ·have hk' : k ∈ Nm.ids r := by simpa [Nm.ids, e] using hk
   simp only [crashTh]
   have hne : ∀ j ∈ Nm.ids r, j ≠ x.2 := fun j hj e => hn.1 (by rw [e] at hj; exact hj)
   refine ih (i + 1) _ hn.2 (fun j hj => ?_) (fun j hj => ?_) k hk'
   ·rw [upd_other _ _ (hne j hj)]; exact hok j (by simp [Nm.ids] at hj ⊢; exact .inr hj)
   ·rw [upd_other _ _ (hne j hj)]; exact h j (by simp [Nm.ids] at hj ⊢; exact .inr hj)
theorem made_take (r : List Nc) (n : Nat) : (madeN (r.take n)).Sublist (madeN r) := by
 have : madeN r = madeN (r.take n) ++ madeN (r.drop n) := by rw [← madeN_append, List.take_append_drop]
 rw [this]
 exact List.sublist_append_left _ _
theorem Wf.crashIds {S : Ds} (h : S.Wf) (ps : List Int) : (S.crashNm ps).ids.Nodup := by
 unfold crashNm
 refine runN_ids_nodup h.up _ (okN_take _ _ _ h.ok) (h.nodup.sublist (List.Sublist.append_left ?_ _))
 exact made_take _ _
theorem Wf.crashSub {S : Ds} (h : S.Wf) (ps : List Int) {k : Nat} (hk : k ∈ (S.crashNm ps).ids) : k < S.nx := by
 refine h.lt k ?_
 have h1 := runN_ids_sub _ hk
 rcases List.mem_append.1 h1 with h2 | h2
 ·exact List.mem_append_left _ h2
 ·exact List.mem_append_right _ ((made_take _ _).subset h2)
theorem Wf.crash {S : Ds} (h : S.Wf) (ps : List Int) : (S.crash ps).Wf := by
 refine ⟨h.room, runN_up h.up _, rfl, trivial, ?_, fun k hk => ?_, runN_nm _ h.nm (fun c hc => h.nmr' c (List.mem_of_mem_take hc)), by simp [Ds.crash], fun k hk => ?_⟩
 ·show ((S.crashNm ps).ids ++ madeN []).Nodup
  simpa [madeN] using h.crashIds ps
 ·have hk' : k ∈ (S.crashNm ps).ids ++ madeN [] := hk
  exact h.crashSub ps (by simpa [madeN] using hk')
 ·show (crashTh ps 0 (S.crashNm ps) S.th k).ok
  rcases crashTh_or ps 0 (S.crashNm ps) S.th k with e | ⟨t, p, e⟩
  ·rw [e]; exact h.th k hk
  ·rw [e]; exact Th.crash_ok t p
theorem Bd.crash {S : Ds} {N : Nat} (h : S.Bd N) (hw : S.Wf) (ps : List Int) : (S.crash ps).Bd N := by
 refine ⟨?_, fun k hk => ?_, h.reads, Nat.zero_le _, Nat.zero_le _⟩
 ·show (S.crashNm ps).length + 0 ≤ N
  have h1 := runN_len S.safe (S.row.take (rnd (ps.getD 0 0) S.row.length))
  have h2 := h.nm
  rw [List.length_take] at h1
  unfold crashNm
  omega
 ·show (crashTh ps 0 (S.crashNm ps) S.th k).safe.length + unitsOf (crashTh ps 0 (S.crashNm ps) S.th k).row + (crashTh ps 0 (S.crashNm ps) S.th k).row.length ≤ N
  by_cases hm : k ∈ (S.crashNm ps).ids
  ·exact crashTh_len ps 0 _ S.th N (hw.crashIds ps) (fun j hj => hw.th j (hw.crashSub ps hj)) (fun j hj => h.th j (hw.crashSub ps hj)) k hm
  ·rw [crashTh_not _ _ _ _ _ hm]
   exact h.th k hk
end Ds
end Dsk
end

section
set_option linter.unusedVariables false
set_option linter.unusedSimpArgs false
open Dsk Go.Sort
def ptrElem : Value → Option (DataW Unit × List MemPlace)
 | .pointer none => some (.nil, [])
 | .pointer (some ⟨b, 0, none⟩) => some (.lit (.int .i64 b), [])
 | _ => none
theorem ptrElem_nil_inv {v : Value} {ps : List MemPlace} (h : ptrElem v = some (.nil, ps)) : v = .pointer none := by
 unfold ptrElem at h
 split at h
 ·rfl
 ·simp at h
 ·cases h
theorem ptrElem_some_inv {v : Value} {b : Nat} {ps : List MemPlace} (h : ptrElem v = some (.lit (.int .i64 b), ps)) : v = .pointer (some ⟨b, 0, none⟩) := by
 unfold ptrElem at h
 split at h
 ·simp at h
 ·rename_i b'
  simp only [Option.some.injEq, Prod.mk.injEq, DataW.lit.injEq, Lit.int.injEq, true_and] at h
  have : b' = b := by omega
  rw [this]
 ·cases h
def nmE (A : Nat → Nat) (p : By × Nat) : Lit × DataW Unit := (.string p.1, .lit (.int .i64 (A p.2)))
def nmD (A : Nat → Nat) (l : Nm) : DataW Unit := .map (l.map (nmE A))
theorem same_str (a b : By) : (Lit.string a).sameKey (.string b) = (a == b) := rfl
theorem nmE_ins (A : Nat → Nat) (x : By × Nat) (l : Nm) : (Nm.ins x l).map (nmE A) = DataW.insert (nmE A x) (l.map (nmE A)) := by
 induction l with
 | nil => rfl
 | cons y r ih =>
  simp only [Nm.ins, List.map_cons, DataW.insert]
  have hb : (nmE A x).1.before (nmE A y).1 = bytesBefore x.1 y.1 := rfl
  rw [hb]
  cases hbb : bytesBefore x.1 y.1 <;> simp [ih]
theorem nmD_del (A : Nat → Nat) (l : Nm) (n : By) : (nmD A l).del (.string n) = nmD A (l.del n) := by
 unfold nmD DataW.del Nm.del
 simp only [List.filter_map]
 rfl
theorem nmD_put (A : Nat → Nat) (l : Nm) (n : By) (k : Nat) : (nmD A l).put (.string n) (.lit (.int .i64 (A k))) = nmD A (l.put n k) := by
 have := nmD_del A l n
 unfold nmD DataW.put Nm.put
 rw [nmE_ins]
 unfold nmD DataW.del at this
 simp only [DataW.map.injEq] at this
 simp only [DataW.map.injEq]
 rw [this]
 rfl
theorem nmD_at (A : Nat → Nat) (l : Nm) (n : By) (z : DataW Unit) : (nmD A l).atKey (.string n) z = match l.get n with | some k => .lit (.int .i64 (A k)) | none => z := by
 unfold nmD DataW.atKey Nm.get
 simp only [List.find?_map]
 have : ((fun p : Lit × DataW Unit => p.1.sameKey (.string n)) ∘ nmE A) = fun p : By × Nat => p.1 == n := rfl
 rw [this]
 cases l.find? (fun p => p.1 == n) <;> rfl
theorem nmD_size (A : Nat → Nat) (l : Nm) : Maps.size (nmD A l) = l.length := by simp [nmD, Maps.size_eq]
theorem nmD_keys (A : Nat → Nat) (l : Nm) : strKeys (nmD A l) = l.keys := by
 unfold nmD strKeys Nm.keys
 induction l with
 | nil => rfl
 | cons y r ih =>
  simp only [List.map_cons]
  simp only [List.map_map] at ih ⊢
  rw [ih]
  rfl
theorem before_lt (a b : By) : bytesBefore a b = true ↔ a < b := by
 induction a generalizing b with
 | nil => cases b <;> simp [bytesBefore]
 | cons x r ih => cases b with
  | nil => simp [bytesBefore]
  | cons y s => simp [bytesBefore, ih, List.cons_lt_cons_iff]
theorem keys_sorted {l : Nm} (h : l.Up) (ss : List By) (hp : ss.Perm l.keys) : ss.mergeSort (fun x y => decide (x ≤ y)) = l.keys := by
 have hs : l.keys.Pairwise (fun x y => (decide (x ≤ y)) = true) := by
  refine List.pairwise_map.2 (h.imp ?_)
  intro a b hab
  simp only [decide_eq_true_eq]
  exact List.le_of_lt ((before_lt _ _).1 hab)
 have h1 := List.pairwise_mergeSort (le := fun x y : By => decide (x ≤ y)) (fun a b c h1 h2 => by simp only [decide_eq_true_eq] at *; exact List.le_trans h1 h2) (fun a b => by simp only [Bool.or_eq_true, decide_eq_true_eq]; exact List.le_total a b) ss
 have h2 : (ss.mergeSort (fun x y => decide (x ≤ y))).Perm l.keys := (List.mergeSort_perm _ _).trans hp
 exact List.Perm.eq_of_pairwise (le := fun x y : By => decide (x ≤ y) = true) (fun a b _ _ h3 h4 => by simp only [decide_eq_true_eq] at *; exact List.le_antisymm h3 h4) h1 hs h2
end

end Go.Proofs.YtodihkdmneihiaaGreatDoor
