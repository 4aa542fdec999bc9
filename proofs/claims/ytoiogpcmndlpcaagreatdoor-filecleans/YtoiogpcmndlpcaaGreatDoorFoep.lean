/-
  A disk with files, as mathematics; in memory while it is laid.
-/
import Derived.Test.YtoiogpcmndlpcaaGreatDoorFodp
import Derived.Test.YtoiogpcmndlpcaaGreatDoorFoap
import Derived.Test.YtoiogpcmndlpcaaGreatDoorGvp
import Derived.Test.YtoiogpcmndlpcaaGreatDoorGrp
namespace Go.Proofs.YtoiogpcmndlpcaaGreatDoor
open Go.RowKit Dsk
set_option linter.unusedVariables false
set_option linter.unusedSimpArgs false
namespace Dsk
/-- The names of k files, each with its place. -/
def ldn (L : List (By × By)) : Nat → Nm
  | 0 => []
  | k + 1 => (ldn L k).put (L.getD k ([], [])).1 k
def thL (L : List (By × By)) (k : Nat) : Th := ⟨(L.getD k ([], [])).2, [], (L.getD k ([], [])).2⟩
def Ds.load (room : Nat) (L : List (By × By)) : Ds := ⟨room, true, ldn L L.length, [], ldn L L.length, thL L, L.length, 0, 0, 0, 0, 0, []⟩
theorem ldn_up (L : List (By × By)) (k : Nat) : (ldn L k).Up := by
  induction k with
  | zero => exact List.Pairwise.nil
  | succ k ih => exact ih.put _ _
theorem ldn_len (L : List (By × By)) (k : Nat) : (ldn L k).length ≤ k := by
  induction k with
  | zero => exact Nat.le_refl _
  | succ k ih => exact Nat.le_trans (Nm.put_length_le _ _ _) (by omega)
theorem ldn_mem (L : List (By × By)) (k : Nat) (p : By × Nat) (h : p ∈ ldn L k) : p.2 < k ∧ p.1 = (L.getD p.2 ([], [])).1 := by
  induction k with
  | zero => cases h
  | succ k ih =>
    rcases Nm.mem_put.1 h with rfl | ⟨h, _⟩
    · exact ⟨Nat.lt_succ_self k, rfl⟩
    · exact ⟨Nat.lt_succ_of_lt (ih h).1, (ih h).2⟩
theorem ldn_ids (L : List (By × By)) (k : Nat) : (ldn L k).ids.Nodup := by
  induction k with
  | zero => exact List.nodup_nil
  | succ k ih =>
    have h1 : ((ldn L (k + 1)).ids).Perm (k :: ((ldn L k).del (L.getD k ([], [])).1).ids) := (Nm.ins_perm _ _).map _
    refine h1.nodup_iff.2 (List.nodup_cons.2 ⟨fun h => ?_, ih.sublist (List.filter_sublist.map _)⟩)
    obtain ⟨p, hp, e⟩ := List.mem_map.1 h
    have := (ldn_mem L k p (List.mem_filter.1 hp).1).1
    omega
theorem Wf.load {room : Nat} {L : List (By × By)} (hr : 1 ≤ room ∧ room ≤ 1048576) (hN : ∀ f ∈ L, isNm f.1 = true) : (Ds.load room L).Wf := by
  refine ⟨hr, ldn_up L _, rfl, trivial, by simpa [madeN, Ds.load] using ldn_ids L L.length, fun k hk => ?_, fun p hp => ?_, fun c hc => (by cases hc), fun k hk => ⟨trivial, rfl⟩⟩
  · have hk' : k ∈ (ldn L L.length).ids := by simpa [madeN, Ds.load] using hk
    obtain ⟨p, hp, rfl⟩ := List.mem_map.1 hk'
    exact (ldn_mem L _ p hp).1
  · obtain ⟨h1, h2⟩ := ldn_mem L _ p hp
    rw [h2]
    apply hN
    rw [List.getD_eq_getElem?_getD, List.getElem?_eq_getElem h1]
    exact List.getElem_mem h1
theorem AllSafe.load (room : Nat) (L : List (By × By)) : AllSafe (Ds.load room L) := ⟨rfl, rfl, fun p hp => ⟨rfl, rfl⟩⟩
theorem Bd.load {room N : Nat} {L : List (By × By)} (hn : L.length ≤ N) (hd : ∀ f ∈ L, f.2.length ≤ N) : (Ds.load room L).Bd N := by
  refine ⟨Nat.le_trans (ldn_len L _) hn, fun k hk => ?_, Nat.zero_le _, Nat.zero_le _, Nat.zero_le _⟩
  have hk' : k < L.length := hk
  show (L.getD k ([], [])).2.length + 0 + 0 ≤ N
  rw [List.getD_eq_getElem?_getD, List.getElem?_eq_getElem hk']
  exact hd _ (List.getElem_mem hk')
end Dsk

/-- In the loop of Load: k files have been laid. -/
structure Ldg (w wr : World) (p mb : Nat) (cs : Array Value) (L : List (By × By)) (k : Nat) (A : Nat → Nat) (o : Lab) : Prop where
  cells : wr.heap[p]? = some (.cells cs 94 (0, 0))
  map : Mp wr mb A (ldn L k)
  th : ∀ j, j < k → Tg wr o (j + 2) (A j) (thL L j)
  lp : o p = 1
  lm : o mb = 1
  lim : ∀ b, o b ≠ 0 → b < wr.heap.size ∧ w.heap.size ≤ b
  kept : Kept [] w wr

theorem Ldg.step {w wr w6 w7 : World} {p mb tb k : Nat} {cs : Array Value} {L : List (By × By)} {A : Nat → Nat} {o : Lab} {rv sv : Value} (h : Ldg w wr p mb cs L k A o) (hk6 : Kept [] wr w6) (ht : Th0 w6 tb rv sv (thL L k)) (htb : wr.heap.size ≤ tb)
    (hrv : ∀ g, rv.ownBlock = some g → wr.heap.size ≤ g) (hsv : ∀ g, sv.ownBlock = some g → wr.heap.size ≤ g) (hm : Mp w7 mb (upd A k tb) (ldn L (k + 1))) (hK : Keep (· = mb) w6 w7) : Ldg w w7 p mb cs L (k + 1) (upd A k tb) (o.ext wr w7 (k + 2)) := by
  have hmp : mb ≠ p := map_ne h.map h.cells (by simp)
  have hmlt : mb < wr.heap.size := h.map.lt
  have hplt : p < wr.heap.size := (Array.getElem?_eq_some_iff.1 h.cells).1
  have hs6 := hk6.size
  have hs7 := hK.size
  have hk6' : Keep (fun _ => False) wr w6 := Keep.ofNone hk6
  refine ⟨hK.heapOf (hk6'.heapOf h.cells (fun h => h)) (fun e => hmp e.symm), hm, fun j hj => ?_, (Lab.ext_old hplt).trans h.lp, (Lab.ext_old hmlt).trans h.lm, fun b hb => ?_, ?_⟩
  · by_cases e : j = k
    · subst e
      rw [upd_same]
      refine ⟨rv, sv, ⟨hK.heapOf ht.cells (by omega), own_keeps ht.row hK (fun g hg => by have := hrv g hg; omega), ht.shown.keep hK (fun g hg => by have := hsv g hg; omega), Lab.ext_new htb (Nat.lt_of_lt_of_le ht.lt hs7), fun g hg => Lab.ext_new (hrv g hg) (Nat.lt_of_lt_of_le (ht.row.lt g hg).2 hs7), fun g hg => Lab.ext_new (hsv g hg) (Nat.lt_of_lt_of_le (ht.shown.lt hg) hs7)⟩⟩
    · rw [upd_other _ _ e]
      obtain ⟨rv1, sv1, h1⟩ := h.th j (by omega)
      refine ⟨rv1, sv1, (((h1.relab (o' := o.ext wr w7 (k + 2)) (fun g hg => Lab.ext_old hg)).keep hk6' (fun _ _ h => h)).keep hK (fun g hg e => ?_))⟩
      rw [e, Lab.ext_old hmlt, h.lm] at hg
      omega
  · by_cases hb2 : b < wr.heap.size
    · rw [Lab.ext_old hb2] at hb
      exact ⟨by omega, (h.lim b hb).2⟩
    · by_cases hb3 : b < w7.heap.size
      · have := h.kept.size
        exact ⟨hb3, by omega⟩
      · simp [Lab.ext, hb2, hb3] at hb
  · have h1 := h.kept.trans hk6 (by simp)
    have hn : w.heap.size ≤ mb := (h.lim mb (by rw [h.lm]; decide)).2
    exact ⟨hK.os.trans h1.os, hK.tape.trans h1.tape, hK.output.trans h1.output, Nat.le_trans h1.size hK.size, fun i hi _ => (hK.block i (Nat.lt_of_lt_of_le hi h1.size) (by omega)).trans (h1.block i hi (by simp))⟩

/-- The cells of a disk that is being laid. -/
def ldc (r : Int) (mb : Nat) : Array Value := #[.int .i64 r, .bool true, .map none, .slice none 0 0, .map (some mb), .int .i64 0, .int .i64 0, .int .i64 0, .int .i64 0, .int .i64 0, .slice none 0 0]
theorem Ldg.done {w wr w3 : World} {p mb : Nat} {r : Int} {L : List (By × By)} {A : Nat → Nat} {o : Lab} (h : Ldg w wr p mb (ldc r mb) L L.length A o) (hr : 1 ≤ r ∧ r ≤ 1048576) (hN : ∀ f ∈ L, isNm f.1 = true) (hs : DirSynced wr w3 p 2 mb 94 (ldc r mb) A (ldn L L.length)) :
    ∃ o', PD w3 p (Ds.load r.toNat L) A o' ∧ (∀ b, o' b ≠ 0 → w.heap.size ≤ b) ∧ Kept [] w w3 := by
  obtain ⟨nb, k1, k2, k3, k4, k5⟩ := hs
  have hplt : p < wr.heap.size := (Array.getElem?_eq_some_iff.1 h.cells).1
  have hmlt : mb < wr.heap.size := h.map.lt
  have hnlt : nb < w3.heap.size := k2.lt
  have hs3 := k4.size
  have hrc : (r.toNat : Int) = r := by omega
  have hpn : w.heap.size ≤ p := (h.lim p (by rw [h.lp]; decide)).2
  have hwr := h.kept.size
  refine ⟨o.ext wr w3 1, ⟨nb, mb, .slice none 0 0, .slice none 0 0, ⟨Wf.load (by omega) hN, ?_, by omega, k2, k3, World.ownsRow_nil _ _ _ _, World.ownsRow_nil _ _ _ _, fun k hk => ?_, (Lab.ext_old hplt).trans h.lp, Lab.ext_new k5 hnlt, (Lab.ext_old hmlt).trans h.lm, by simp [Value.ownBlock], by simp [Value.ownBlock], fun b hb => ?_, (show (Lit.int .i64 0).wf = true ∧ (Lit.int .i64 0).wf = true ∧ (Lit.int .i64 0).wf = true from ⟨by decide, by decide, by decide⟩)⟩⟩, fun b hb => ?_, ?_⟩
  · rw [k1]
    simp [Ds.load, hrc, ldc]
  · obtain ⟨rv1, sv1, h1⟩ := h.th k hk
    refine ⟨rv1, sv1, ((h1.relab (o' := o.ext wr w3 1) (fun g hg => Lab.ext_old hg)).keep k4 (fun g hg e => ?_))⟩
    rw [e, Lab.ext_old hplt, h.lp] at hg
    omega
  · by_cases hb2 : b < wr.heap.size
    · omega
    · by_cases hb3 : b < w3.heap.size
      · exact hb3
      · simp [Lab.ext, hb2, hb3] at hb
  · by_cases hb2 : b < wr.heap.size
    · rw [Lab.ext_old hb2] at hb
      exact (h.lim b hb).2
    · omega
  · have h1 := h.kept
    exact ⟨k4.os.trans h1.os, k4.tape.trans h1.tape, k4.output.trans h1.output, Nat.le_trans h1.size k4.size, fun i hi _ => (k4.block i (Nat.lt_of_lt_of_le hi h1.size) (by omega)).trans (h1.block i hi (by simp))⟩
end Go.Proofs.YtoiogpcmndlpcaaGreatDoor
