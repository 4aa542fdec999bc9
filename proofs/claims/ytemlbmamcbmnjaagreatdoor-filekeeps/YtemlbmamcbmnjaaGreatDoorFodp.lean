/-
  disk.refusedFiles of files that a disk takes.
-/
import Derived.Test.YtemlbmamcbmnjaaGreatDoorFocp
import Derived.Test.YtemlbmamcbmnjaaGreatDoorHop
namespace Go.Proofs.YtemlbmamcbmnjaaGreatDoor
open Go.RowKit Dsk
set_option linter.unusedVariables false
set_option linter.unusedSimpArgs false

def intElem : Value → Option (DataW Unit × List MemPlace)
  | .int .i64 n => some (.lit (.int .i64 n), [])
  | _ => none
theorem intElem_inv {v : Value} {n : Int} {ps : List MemPlace} (h : intElem v = some (.lit (.int .i64 n), ps)) : v = .int .i64 n := by
  unfold intElem at h
  split at h
  · simp only [Option.some.injEq, Prod.mk.injEq, DataW.lit.injEq, Lit.int.injEq, true_and] at h
    rw [h.1]
  · cases h
/-- A map that counts names, each once. -/
def Mi (w : World) (b : Nat) (l : Nm) : Prop := w.ownsMap Tryz.prog 9 intElem b l.length (nmD (fun _ => 1) l)
theorem Mi.of {w : World} {b n : Nat} {l : Nm} (h : w.ownsMap Tryz.prog 9 intElem b n (nmD (fun _ => 1) l)) : Mi w b l := by
  obtain ⟨es, clock, hb, F, hs, hD⟩ := h
  refine ⟨es, clock, hb, F, ?_, hD⟩
  have h1 := congrArg Maps.size hD
  rw [nmD_size, Maps.size_eq, length_sorted, List.length_map] at h1
  have h2 : es.toList.length = es.size := Array.length_toList
  omega
theorem Mi.look {w : World} {b : Nat} {l : Nm} (h : Mi w b l) (n : By) (hn : n.length ≤ maxLen) (hg : l.get n = none) :
    (Instr.lookup 206 (.map (some b)) (encStr n) false).run Tryz.prog w = .ok (.int .i64 0) w := by
  obtain ⟨v, ps, hrun, hv⟩ := World.ownsMap.lookup h Tryz.keyed Tryz.underlying206 (z := .int .i64 0) (by kernel_rfl) (zd := .lit (.int .i64 0)) (zp := []) rfl (key_str n hn)
  rw [hrun]
  rw [nmD_at, hg] at hv
  rw [intElem_inv hv]
set_option maxRecDepth 100000 in
theorem Mi.put {w : World} {b : Nat} {l : Nm} (h : Mi w b l) (n : By) (hn : n.length ≤ maxLen) (hl : l.length < maxLen) :
    ∃ w', (Instr.mapUpdate 206 (.map (some b)) (encStr n) (.int .i64 1)).run Tryz.prog w = .ok () w' ∧ Mi w' b (l.put n 0) ∧ Keep (· = b) w w' := by
  obtain ⟨w', hrun, h1, h2⟩ := World.ownsMap.update h Tryz.keyed Tryz.underlying206 hl (key_str n hn) (val := .int .i64 1) (d := .lit (.int .i64 (((fun _ => 1 : Nat → Nat) 0 : Nat) : Int))) (ps := []) rfl
  rw [nmD_put (fun _ => 1) l n 0] at h1
  exact ⟨w', hrun, Mi.of h1, (Keep.refl _ w).grown h2 (fun j e _ => by injection e with e; exact e.symm)⟩

theorem ins_len (x : By × Nat) (l : Nm) : (Nm.ins x l).length = l.length + 1 := by
  induction l with
  | nil => rfl
  | cons y r ih =>
    unfold Nm.ins
    by_cases h : bytesBefore x.1 y.1 = true
    · rw [if_pos h]; rfl
    · rw [if_neg h]; simp [ih]
theorem ins_mem (x : By × Nat) (l : Nm) (p : By × Nat) (h : p ∈ Nm.ins x l) : p = x ∨ p ∈ l := by
  induction l with
  | nil => simpa [Nm.ins] using h
  | cons y r ih =>
    unfold Nm.ins at h
    by_cases hb : bytesBefore x.1 y.1 = true
    · rw [if_pos hb] at h; simpa using h
    · rw [if_neg hb] at h
      rcases List.mem_cons.1 h with h | h
      · exact .inr (by simp [h])
      · rcases ih h with h | h
        · exact .inl h
        · exact .inr (List.mem_cons_of_mem _ h)
theorem del_none (l : Nm) (n : By) (h : ∀ p ∈ l, p.1 ≠ n) : l.del n = l := by
  unfold Nm.del
  rw [List.filter_eq_self]
  intro p hp
  simpa using h p hp
theorem get_no (l : Nm) (n : By) (h : ∀ p ∈ l, p.1 ≠ n) : l.get n = none := by
  unfold Nm.get
  rw [List.find?_eq_none.2 (fun p hp => by simpa using h p hp)]
  rfl
/-- While they are counted: k of them have been. -/
structure Cnt (w wr : World) (b : Nat) (L : List (By × By)) (k : Nat) (l : Nm) : Prop where
  map : Mi wr b l
  len : l.length = k
  mem : ∀ p ∈ l, ∃ i f, i < k ∧ L[i]? = some f ∧ p.1 = f.1
  kept : Kept [] w wr
  new : w.heap.size ≤ b
theorem Cnt.fresh {w wr : World} {b k : Nat} {L : List (By × By)} {l : Nm} (h : Cnt w wr b L k l) (hd : (L.map (·.1)).Nodup) {f : By × By} (hf : L[k]? = some f) : ∀ p ∈ l, p.1 ≠ f.1 := by
  intro p hp he
  obtain ⟨i, g, hi, hg, e⟩ := h.mem p hp
  have h1 : (L.map (·.1))[i]? = some f.1 := by rw [List.getElem?_map, hg]; simp [← e, he]
  have h2 : (L.map (·.1))[k]? = some f.1 := by rw [List.getElem?_map, hf]; rfl
  have hlt : i < (L.map (·.1)).length := (List.getElem?_eq_some_iff.1 h1).1
  have := (List.getElem?_inj hlt hd).1 (h1.trans h2.symm)
  omega
theorem Cnt.step {w wr wA w' : World} {b k : Nat} {L : List (By × By)} {l : Nm} {f : By × By} (h : Cnt w wr b L k l) (hd : (L.map (·.1)).Nodup) (hf : L[k]? = some f) (hA : Kept [] wr wA) (hm : Mi w' b (l.put f.1 0)) (hK : Keep (· = b) wA w') : Cnt w w' b L (k + 1) (l.put f.1 0) := by
  have hfr := h.fresh hd hf
  have e : l.put f.1 0 = Nm.ins (f.1, 0) l := by unfold Nm.put; rw [del_none l f.1 hfr]
  have h1 := h.kept.trans hA (by simp)
  refine ⟨hm, by rw [e, ins_len, h.len], fun p hp => ?_, ?_, h.new⟩
  · rw [e] at hp
    rcases ins_mem _ _ _ hp with rfl | hp
    · exact ⟨k, f, Nat.lt_succ_self k, hf, rfl⟩
    · obtain ⟨i, g, hi, hg, e⟩ := h.mem p hp
      exact ⟨i, g, Nat.lt_succ_of_lt hi, hg, e⟩
  · have hn := h.new
    exact ⟨hK.os.trans h1.os, hK.tape.trans h1.tape, hK.output.trans h1.output, Nat.le_trans h1.size hK.size, fun i hi _ => (hK.block i (Nat.lt_of_lt_of_le hi h1.size) (by omega)).trans (h1.block i hi (by simp))⟩

set_option maxHeartbeats 1600000 in
set_option maxRecDepth 100000 in
theorem refused_fine (r : Int) (ao : Option Addr) (n c : Nat) (L : List (By × By)) (w : World) (hx : L.length = n) (hn : n ≤ 256) (hr : 1 ≤ r ∧ r ≤ 1048576) (hN : ∀ f ∈ L, isNm f.1 = true) (hd : (L.map (·.1)).Nodup) (hT : (totalOf L : Int) ≤ r) (h1 : Fis w ao L) :
    Calls Tryz.prog 101 #[.int .i64 r, .slice ao n c] w fun e w' => e = .returned (.int .i64 0) ∧ Kept [] w w' := by
  have hmm := @run_makeMap Tryz.prog
  have HX := hide hx
  have H1 := hide h1
  have HN := hide hN
  have HD := hide hd
  have HT := hide hT
  have HS : Hid (Cnt w (w.alloc (.map #[] 0)) w.heap.size L 0 []) := hide ⟨World.ownsMap_made (H := Unit) w Tryz.prog 9 intElem, rfl, by simp, (Kept.refl [] w).alloc _, Nat.le_refl _⟩
  obtain ⟨hr1, hr2⟩ := hr
  clear hx h1 hN hd hT
  go_enter Tryz.func101, Tryz.ntmps101
  go_wp2
  generalize w.heap.size = mb at HS ⊢
  go_loopw [6, 21] (fun u i wr => ∃ k : Nat, k ≤ n ∧ i = .int .i64 k ∧ u = .int .i64 (totalOf (L.take k) : Nat) ∧ Hid (∃ l, Cnt w wr mb L k l)) (fun u i wr => n - (intOf i).toNat)
  case atStart => exact ⟨0, Nat.zero_le _, rfl, rfl, hide ⟨[], HS.out⟩⟩
  case round =>
    obtain ⟨k, hk, rfl, rfl, HR⟩ := hrel
    have htl := totalOf_le L k
    have hTb : (totalOf L : Int) ≤ 1048576 := Int.le_trans HT.out hr2
    by_cases hlt : k < n
    · obtain ⟨b1, rfl, ⟨x, d⟩, hs, e1, bo1, bc1, e2, s1⟩ := H1.out k (by rw [HX.out]; exact hlt)
      obtain ⟨l, hR⟩ := HR.out
      replace e1 := hR.kept.cellOf e1 (by simp)
      replace e2 := hR.kept.cellOf e2 (by simp)
      have htk := totalOf_take L k _ hs
      have htl2 := totalOf_le L (k + 1)
      dsimp only at htk e1 e2 s1
      have hnm : isNm x = true := HN.out _ (List.mem_of_getElem? hs)
      have hxl : x.length ≤ 112 := isNm_len hnm
      have hA : Kept [] wr (wr.alloc (.cells #[encStr x, .slice bo1 d.length bc1] 88)) := (Kept.refl [] wr).alloc _
      have hMA : Mi (wr.alloc (.cells #[encStr x, .slice bo1 d.length bc1] 88)) mb l := World.ownsMap.alloc hR.map _
      have hlk := hMA.look x (by unfold maxLen; omega) (get_no l x (hR.fresh HD.out hs))
      obtain ⟨w5, hup, hM5, hK5⟩ := hMA.put x (by unfold maxLen; omega) (by rw [hR.len]; unfold maxLen; omega)
      have H5 := hide (show ∃ l, Cnt w w5 mb L (k + 1) l from ⟨_, hR.step HD.out hs hA hM5 hK5⟩)
      have hcell : (wr.alloc (.cells #[encStr x, .slice bo1 d.length bc1] 88)).heap[wr.heap.size]? = some (.cells #[encStr x, .slice bo1 d.length bc1] 88 (0, 0)) := (MapKept.heap_alloc wr _).1
      have hcell5 : w5.cell? ⟨wr.heap.size, 1, none⟩ = some (.slice bo1 d.length bc1) := by
        have hne : wr.heap.size ≠ mb := by
          intro e
          have : mb < wr.heap.size := World.ownsMap.lt hR.map
          omega
        have h5 := (hK5.block wr.heap.size (by simp) hne).trans hcell
        rw [cell_of_row _ _ _ _ _ _ h5]
        rfl
      have hin := isName_ok x (wr.alloc (.cells #[encStr x, .slice bo1 d.length bc1] 88)) (by omega)
      rw [hnm] at hin
      clear hR s1 hs hM5 hK5 hMA hA HR hnm
      generalize d.length = z at *
      go_wp2_with (go_at_call 95; refine hin.mono ?_; rintro e w' ⟨rfl, hww⟩; obtain rfl := hww.symm; clear hin)
      go_roundw
      case rel => exact ⟨k + 1, by omega, by go_num, by rw [htk]; go_num, H5⟩
      case measure => simp [intOf]; omega
    · have hkn : k = n := by omega
      subst hkn
      have hte : L.take k = L := List.take_of_length_le (by rw [HX.out]; exact Nat.le_refl _)
      rw [hte] at htl
      obtain ⟨l, hR⟩ := HR.out
      have hlen : (Builtin.len_ #[206] 3 #[.map (some mb)]).run Tryz.prog wr = .ok (.int .i64 k) wr := by
        have := World.ownsMap.len hR.map Tryz.underlying206 3
        rw [nmD_size, hR.len] at this
        exact this
      have hT2 := HT.out
      have HK := hide hR.kept
      rw [hte]
      clear hR hte
      go_wp2
      go_ret
      exact ⟨rfl, HK.out⟩
end Go.Proofs.YtemlbmamcbmnjaaGreatDoor
