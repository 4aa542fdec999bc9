import Derived.Test.YtodihkdmneihiaaGreatDoorId1p
import Derived.Test.YtodihkdmneihiaaGreatDoorFap
import Derived.Test.YtodihkdmneihiaaGreatDoorGtp
import Derived.Test.YtodihkdmneihiaaGreatDoorGqp
import Derived.Deep.RegionHeld
import Derived.Test.YtodihkdmneihiaaGreatDoorFndp
import Derived.Test.YtodihkdmneihiaaGreatDoorHop
import Derived.Lib.SlBytesConst
namespace Go.Proofs.YtodihkdmneihiaaGreatDoor
section
open Go.RowKit Dsk
set_option linter.unusedVariables false
set_option linter.unusedSimpArgs false
namespace Dsk
def ldn (L : List (By × By)) : Nat → Nm
 | 0 => []
 | k + 1 => (ldn L k).put (L.getD k ([], [])).1 k
def thL (L : List (By × By)) (k : Nat) : Th := ⟨(L.getD k ([], [])).2, [], (L.getD k ([], [])).2⟩
def Ds.load (room : Nat) (L : List (By × By)) : Ds := ⟨room, true, ldn L L.length, [], ldn L L.length, thL L, L.length, 0, 0, 0, 0, 0, []⟩
theorem ldn_up (L : List (By × By)) (k : Nat) : (ldn L k).Up := by
 induction k with
 | zero => exact List.Pairwise.nil
 | succ k ih => exact ih.put _ _
theorem ldn_len (L : List (By × By)) (k : Nat) : (ldn L k).length ≤ k := by
 induction k with
 | zero => exact Nat.le_refl _
 | succ k ih => exact Nat.le_trans (Nm.put_length_le _ _ _) (by omega)
theorem ldn_mem (L : List (By × By)) (k : Nat) (p : By × Nat) (h : p ∈ ldn L k) : p.2 < k ∧ p.1 = (L.getD p.2 ([], [])).1 := by
 induction k with
 | zero => cases h
 | succ k ih =>
  rcases Nm.mem_put.1 h with rfl | ⟨h, _⟩
  ·exact ⟨Nat.lt_succ_self k, rfl⟩
  ·exact ⟨Nat.lt_succ_of_lt (ih h).1, (ih h).2⟩
theorem ldn_ids (L : List (By × By)) (k : Nat) : (ldn L k).ids.Nodup := by
 induction k with
 | zero => exact List.nodup_nil
 | succ k ih =>
  have h1 : ((ldn L (k + 1)).ids).Perm (k :: ((ldn L k).del (L.getD k ([], [])).1).ids) := (Nm.ins_perm _ _).map _
  refine h1.nodup_iff.2 (List.nodup_cons.2 ⟨fun h => ?_, ih.sublist (List.filter_sublist.map _)⟩)
  obtain ⟨p, hp, e⟩ := List.mem_map.1 h
  have := (ldn_mem L k p (List.mem_filter.1 hp).1).1
  omega
theorem Wf.load {room : Nat} {L : List (By × By)} (hr : 1 ≤ room ∧ room ≤ 1048576) (hN : ∀ f ∈ L, isNm f.1 = true) : (Ds.load room L).Wf := by
 refine ⟨hr, ldn_up L _, rfl, trivial, by simpa [madeN, Ds.load] using ldn_ids L L.length, fun k hk => ?_, fun p hp => ?_, fun c hc => (by cases hc), fun k hk => ⟨trivial, rfl⟩⟩
 ·have hk' : k ∈ (ldn L L.length).ids := by simpa [madeN, Ds.load] using hk
  obtain ⟨p, hp, rfl⟩ := List.mem_map.1 hk'
  exact (ldn_mem L _ p hp).1
 ·obtain ⟨h1, h2⟩ := ldn_mem L _ p hp
  rw [h2]
  apply hN
  rw [List.getD_eq_getElem?_getD, List.getElem?_eq_getElem h1]
  exact List.getElem_mem h1
theorem Bd.load {room N : Nat} {L : List (By × By)} (hn : L.length ≤ N) (hd : ∀ f ∈ L, f.2.length ≤ N) : (Ds.load room L).Bd N := by
 refine ⟨Nat.le_trans (ldn_len L _) hn, fun k hk => ?_, Nat.zero_le _, Nat.zero_le _, Nat.zero_le _⟩
 have hk' : k < L.length := hk
 show (L.getD k ([], [])).2.length + 0 + 0 ≤ N
 rw [List.getD_eq_getElem?_getD, List.getElem?_eq_getElem hk']
 exact hd _ (List.getElem_mem hk')
end Dsk
end

section
open Go.RowKit Dsk
set_option linter.unusedVariables false
set_option linter.unusedSimpArgs false
end

section
open Go.RowKit Dsk
set_option linter.unusedVariables false
set_option linter.unusedSimpArgs false
end

section
open Go.RowKit Dsk
set_option linter.unusedVariables false
set_option linter.unusedSimpArgs false
theorem new_sl6 (W : World) (d : By) (fr : Nat × Nat) : Sl (W.alloc (.cells (bys d).toArray 5 fr)) (some ⟨W.heap.size, 0, none⟩) d := by
 intro i hi
 have hh : (W.alloc (.cells (bys d).toArray 5 fr)).heap[W.heap.size]? = some (.cells (bys d).toArray 5 fr) := (MapKept.heap_alloc W _).1
 refine ⟨W.heap.size, 0, rfl, ?_⟩
 rw [Nat.zero_add, cell_of_row _ _ i _ _ _ hh]
 have := bys_at hi
 simpa using this
def Q0 : Ds := Ds.fresh 50
def Q1 : Ds := (((((Q0.create [43, 97]).2.append [43, 97] [120, 121]).2.sync [43, 97]).2.rename [43, 97] [97]).2.syncNames).2
def Q2 : Ds := Q1.read [97] 0 (Q1.size [97])
theorem Tryz.sizeQ : Q1.readBytes [97] 0 (Q1.size [97]) = [120, 121] := by decide
theorem q2s : Q2.strokes = 5 := by decide
theorem q2f : (Q2.find [98]).1 = 53 := by decide
set_option maxHeartbeats 4000000 in
set_option maxRecDepth 100000 in
theorem known6_ok (w : World) (hg : Gl w) : Calls Tryz.prog 6 #[] w fun e w' => e = .returned (.bool true) ∧ Kept [] w w' := by
 have kc := fun (w : World) (C : Array Value) (n c : Nat) => Lib.run_convert_bytes_const (P := Tryz.prog) w 28 5 C n c Tryz.underlying28 Tryz.underlying5
 have A0 := new_at 50 w (by decide)
 have hr0 : roomE 50 = 0 := by decide
 rw [hr0] at A0
 have A1 : Hid (∀ v p, At w v p Q0 0 → Calls Tryz.prog 12 #[.pointer (some ⟨p, 0, none⟩), .string ⟨#[97]⟩, .slice (some ⟨v.heap.size, 0, none⟩) 2 2] (v.alloc (.cells #[.int .u8 120, .int .u8 121] 5 (2, 3))) fun e w' => e = .returned .nilIface ∧ At w w' p Q1 9) := fun v p h => by
  have hk : Kept [] v (v.alloc (.cells (bys [120, 121]).toArray 5 (2, 3))) := (Kept.refl [] v).alloc _
  have hx := h.ax.more hk
  have := put_fine hx [97] (ao := some ⟨v.heap.size, 0, none⟩) (n := 2) (cp := 2) (d := [120, 121]) (by omega) (by decide) rfl (new_sl6 v [120, 121] (2, 3)) (by simp) (fun _ a ha => by injection ha with ha; subst ha; exact .inr ⟨Nat.le_refl _, by simp⟩) (by decide) (by decide) (by decide) (by decide) (by decide) (by decide) (by decide) (by decide)
  refine this.mono ?_
  rintro e w' ⟨rfl, hx2⟩
  refine ⟨rfl, ?_⟩
  obtain ⟨A, o, g1, g2, g3, g4⟩ := hx2
  obtain ⟨A0, o0, f1, f2, f3, f4⟩ := h
  refine ⟨A, o, g1, fun b hb => ?_, ⟨g3.os.trans (f3.os), g3.tape.trans f3.tape, g3.output.trans f3.output, Nat.le_trans f3.size (Nat.le_trans hk.size g3.size), fun i hi _ => ?_⟩, g4⟩
  ·apply Classical.byContradiction
   intro hn
   exact hb (g2 b (.inl (by omega))).1
  ·rw [g3.block i (Nat.lt_of_lt_of_le hi (Nat.le_trans f3.size hk.size)) (fun hn => hn (.inl hi)), hk.block i (Nat.lt_of_lt_of_le hi f3.size) (by simp)]
   exact f3.block i hi (by simp)
 have A2 : Hid (∀ v p, At w v p Q1 9 → Calls Tryz.prog 13 #[.pointer (some ⟨p, 0, none⟩), .string ⟨#[97]⟩] v fun e w' => ∃ u, e = .returned (.tuple #[u, .nilIface]) ∧ At w w' p Q2 10 ∧ OwnB w' u 2 [120, 121]) := fun v p h => by
  have := get_fine h.ax [97] (by omega) (by decide) (by decide) (by decide)
  rw [Tryz.sizeQ] at this
  refine this.mono ?_
  rintro e w' ⟨u, rfl, hx, ho⟩
  refine ⟨u, rfl, ?_, ho⟩
  obtain ⟨A, o, g1, g2, g3, g4⟩ := hx
  refine ⟨A, o, g1, fun b hb => ?_, ⟨g3.os, g3.tape, g3.output, g3.size, fun i hi _ => g3.block i hi (fun hn => hn hi)⟩, g4⟩
  apply Classical.byContradiction
  intro hn
  exact hb (g2 b (by omega)).1
 have A3 : Hid (∀ v p, At w v p Q2 10 → Calls Tryz.prog 13 #[.pointer (some ⟨p, 0, none⟩), .string ⟨#[98]⟩] v fun e w' => ∃ u, e = .returned (.tuple #[.slice none 0 0, u]) ∧ ErrV w' u opGet [98] 53 ∧ Kept [] v w') := fun v p h => by
  have hs := size_at h [98] (by decide)
  rw [q2f] at hs
  exact get_bad _ [98] _ 53 v (by decide) (by decide) (by decide) hs
 have A4 : Hid (∀ v p, At w v p Q2 10 → Calls Tryz.prog 14 #[.pointer (some ⟨p, 0, none⟩)] v fun e w' => e = .returned (.int .i64 5) ∧ w' = v) := fun v p h => by have := strokes_at h; rw [q2s] at this; exact this
 have HG := hide hg
 clear hg
 go_enter Tryz.func6, Tryz.ntmps6
 go_wp2_with (first
  | (go_at_call 10; refine A0.mono ?_; rintro e w1 ⟨v, rfl, hk1, hn1, _⟩; obtain ⟨p, rfl, hat⟩ := hn1 rfl; have H1 := hide hat; clear hat hn1 A0)
  | (go_at_call 12; refine (A1.out w1 p H1.out).mono ?_; rintro e w2 ⟨rfl, hat⟩; have H2 := hide hat; clear hat H1)
  | (go_at_call 13; have Ha := H2; refine (A2.out w2 p H2.out).mono ?_; rintro e w3 ⟨u3, rfl, hat, hu3⟩; have H3 := hide hat; have O3 := hide hu3; clear hat H2 hu3 Ha)
  | (go_at_call 13; have Ha := H3; refine (A3.out w3 p H3.out).mono ?_; rintro e w4 ⟨u4, rfl, hv4, hk4⟩; have H4 := hide (H3.out.kept hk4); have V4 := hide hv4; have hcv := run_to_str w4 u3 2 [120, 121] (O3.out.kept hk4); clear hv4 hk4 H3 Ha O3)
  | (go_at_call 14; refine (A4.out _ _ H4.out).mono ?_; rintro e w' ⟨rfl, hww⟩; obtain rfl := hww.symm)
  | (go_at_call 15; refine (says_yes u4 [103, 101, 116] [98] 53 w4 (HG.out.kept H4.out.old (by simp)) (by decide) V4.out).mono ?_; rintro e w5 ⟨rfl, hk5⟩; have K5 := hide hk5; clear hk5))
 go_ret
 exact ⟨rfl, H4.out.old.trans K5.out (by simp)⟩
end

end Go.Proofs.YtodihkdmneihiaaGreatDoor
