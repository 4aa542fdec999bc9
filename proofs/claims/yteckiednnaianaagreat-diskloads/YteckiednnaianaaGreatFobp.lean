import Derived.Test.YteckiednnaianaaGreatIbp
import Derived.Test.YteckiednnaianaaGreatHmp
import Derived.Test.YteckiednnaianaaGreatProg
import Derived.WalkKit
import Derived.LaidEql
import Derived.Stop.Asserts
import Derived.RowKitTokens
import Derived.Test.YteckiednnaianaaGreatMemp
import Derived.Test.YteckiednnaianaaGreatGmp
import Derived.Test.YteckiednnaianaaGreatOlp
import Derived.Deep.MidRow
import Derived.BigFrame
namespace Go.Proofs.YteckiednnaianaaGreat
section
open Go.RowKit Dsk
set_option linter.unusedVariables false
set_option linter.unusedSimpArgs false
end

section
open Go.RowKit Dsk
set_option linter.unusedVariables false
set_option linter.unusedSimpArgs false
end

section
open Go.RowKit Dsk
set_option linter.unusedVariables false
set_option linter.unusedSimpArgs false
def intElem : Value → Option (DataW Unit × List MemPlace)
 | .int .i64 n => some (.lit (.int .i64 n), [])
 | _ => none
theorem intElem_inv {v : Value} {n : Int} {ps : List MemPlace} (h : intElem v = some (.lit (.int .i64 n), ps)) : v = .int .i64 n := by
 unfold intElem at h
 split at h
 ·simp only [Option.some.injEq, Prod.mk.injEq, DataW.lit.injEq, Lit.int.injEq, true_and] at h
  rw [h.1]
 ·cases h
def Mi (w : World) (b : Nat) (l : Nm) : Prop := w.ownsMap Tryz.prog 9 intElem b l.length (nmD (fun _ => 1) l)
theorem Mi.of {w : World} {b n : Nat} {l : Nm} (h : w.ownsMap Tryz.prog 9 intElem b n (nmD (fun _ => 1) l)) : Mi w b l := by
 obtain ⟨es, clock, hb, F, hs, hD⟩ := h
 refine ⟨es, clock, hb, F, ?_, hD⟩
 have h1 := congrArg Maps.size hD
 rw [nmD_size, Maps.size_eq, length_sorted, List.length_map] at h1
 have h2 : es.toList.length = es.size := Array.length_toList
 omega
theorem Mi.look {w : World} {b : Nat} {l : Nm} (h : Mi w b l) (n : By) (hn : n.length ≤ maxLen) (hg : l.get n = none) :
  (Instr.lookup 109 (.map (some b)) (encStr n) false).run Tryz.prog w = .ok (.int .i64 0) w := by
 obtain ⟨v, ps, hrun, hv⟩ := World.ownsMap.lookup h Tryz.keyed Tryz.underlying109 (z := .int .i64 0) (by kernel_rfl) (zd := .lit (.int .i64 0)) (zp := []) rfl (key_str n hn)
 rw [hrun]
 rw [nmD_at, hg] at hv
 rw [intElem_inv hv]
set_option maxRecDepth 100000 in
theorem Mi.put {w : World} {b : Nat} {l : Nm} (h : Mi w b l) (n : By) (hn : n.length ≤ maxLen) (hl : l.length < maxLen) :
  ∃ w', (Instr.mapUpdate 109 (.map (some b)) (encStr n) (.int .i64 1)).run Tryz.prog w = .ok () w' ∧ Mi w' b (l.put n 0) ∧ Keep (· = b) w w' := by
 obtain ⟨w', hrun, h1, h2⟩ := World.ownsMap.update h Tryz.keyed Tryz.underlying109 hl (key_str n hn) (val := .int .i64 1) (d := .lit (.int .i64 (((fun _ => 1 : Nat → Nat) 0 : Nat) : Int))) (ps := []) rfl
 rw [nmD_put (fun _ => 1) l n 0] at h1
 exact ⟨w', hrun, Mi.of h1, (Keep.refl _ w).grown h2 (fun j e _ => by injection e with e; exact e.symm)⟩
theorem ins_len (x : By × Nat) (l : Nm) : (Nm.ins x l).length = l.length + 1 := by
 induction l with
 | nil => rfl
 | cons y r ih =>
  unfold Nm.ins
  by_cases h : bytesBefore x.1 y.1 = true
  ·rw [if_pos h]; rfl
  ·rw [if_neg h]; simp [ih]
theorem ins_mem (x : By × Nat) (l : Nm) (p : By × Nat) (h : p ∈ Nm.ins x l) : p = x ∨ p ∈ l := by
 induction l with
 | nil => simpa [Nm.ins] using h
 | cons y r ih =>
  unfold Nm.ins at h
  by_cases hb : bytesBefore x.1 y.1 = true
  ·rw [if_pos hb] at h; simpa using h
  ·rw [if_neg hb] at h
   rcases List.mem_cons.1 h with h | h
   ·exact .inr (by simp [h])
   ·rcases ih h with h | h
    ·exact .inl h
    ·exact .inr (List.mem_cons_of_mem _ h)
theorem del_none (l : Nm) (n : By) (h : ∀ p ∈ l, p.1 ≠ n) : l.del n = l := by
 unfold Nm.del
 rw [List.filter_eq_self]
 intro p hp
 simpa using h p hp
theorem get_no (l : Nm) (n : By) (h : ∀ p ∈ l, p.1 ≠ n) : l.get n = none := by
 unfold Nm.get
 rw [List.find?_eq_none.2 (fun p hp => by simpa using h p hp)]
 rfl
structure Cnt (w wr : World) (b : Nat) (L : List (By × By)) (k : Nat) (l : Nm) : Prop where
 map : Mi wr b l
 len : l.length = k
 mem : ∀ p ∈ l, ∃ i f, i < k ∧ L[i]? = some f ∧ p.1 = f.1
 kept : Kept [] w wr
 new : w.heap.size ≤ b
theorem Cnt.fresh {w wr : World} {b k : Nat} {L : List (By × By)} {l : Nm} (h : Cnt w wr b L k l) (hd : (L.map (·.1)).Nodup) {f : By × By} (hf : L[k]? = some f) : ∀ p ∈ l, p.1 ≠ f.1 := by
 intro p hp he
 obtain ⟨i, g, hi, hg, e⟩ := h.mem p hp
 have h1 : (L.map (·.1))[i]? = some f.1 := by rw [List.getElem?_map, hg]; simp [← e, he]
 have h2 : (L.map (·.1))[k]? = some f.1 := by rw [List.getElem?_map, hf]; rfl
 have hlt : i < (L.map (·.1)).length := (List.getElem?_eq_some_iff.1 h1).1
 have := (List.getElem?_inj hlt hd).1 (h1.trans h2.symm)
 omega
theorem Cnt.step {w wr wA w' : World} {b k : Nat} {L : List (By × By)} {l : Nm} {f : By × By} (h : Cnt w wr b L k l) (hd : (L.map (·.1)).Nodup) (hf : L[k]? = some f) (hA : Kept [] wr wA) (hm : Mi w' b (l.put f.1 0)) (hK : Keep (· = b) wA w') : Cnt w w' b L (k + 1) (l.put f.1 0) := by
 have hfr := h.fresh hd hf
 have e : l.put f.1 0 = Nm.ins (f.1, 0) l := by unfold Nm.put; rw [del_none l f.1 hfr]
 have h1 := h.kept.trans hA (by simp)
 refine ⟨hm, by rw [e, ins_len, h.len], fun p hp => ?_, ?_, h.new⟩
 ·rw [e] at hp
  rcases ins_mem _ _ _ hp with rfl | hp
  ·exact ⟨k, f, Nat.lt_succ_self k, hf, rfl⟩
  ·obtain ⟨i, g, hi, hg, e⟩ := h.mem p hp
   exact ⟨i, g, Nat.lt_succ_of_lt hi, hg, e⟩
 ·have hn := h.new
  exact ⟨hK.os.trans h1.os, hK.tape.trans h1.tape, hK.output.trans h1.output, Nat.le_trans h1.size hK.size, fun i hi _ => (hK.block i (Nat.lt_of_lt_of_le hi h1.size) (by omega)).trans (h1.block i hi (by simp))⟩
set_option maxHeartbeats 1600000 in
set_option maxRecDepth 100000 in
theorem refused_fine (r : Int) (ao : Option Addr) (n c : Nat) (L : List (By × By)) (w : World) (hx : L.length = n) (hn : n ≤ 256) (hr : 1 ≤ r ∧ r ≤ 1048576) (hN : ∀ f ∈ L, isNm f.1 = true) (hd : (L.map (·.1)).Nodup) (hT : (totalOf L : Int) ≤ r) (h1 : Fis w ao L) :
  Calls Tryz.prog 13 #[.int .i64 r, .slice ao n c] w fun e w' => e = .returned (.int .i64 0) ∧ Kept [] w w' := by
 have hmm := @run_makeMap Tryz.prog
 have HX := hide hx
 have H1 := hide h1
 have HN := hide hN
 have HD := hide hd
 have HT := hide hT
 have HS : Hid (Cnt w (w.alloc (.map #[] 0)) w.heap.size L 0 []) := hide ⟨World.ownsMap_made (H := Unit) w Tryz.prog 9 intElem, rfl, by simp, (Kept.refl [] w).alloc _, Nat.le_refl _⟩
 obtain ⟨hr1, hr2⟩ := hr
 clear hx h1 hN hd hT
 go_enter Tryz.func13, Tryz.ntmps13
 go_wp2
 generalize w.heap.size = mb at HS ⊢
 go_loopw [6, 21] (fun u i wr => ∃ k : Nat, k ≤ n ∧ i = .int .i64 k ∧ u = .int .i64 (totalOf (L.take k) : Nat) ∧ Hid (∃ l, Cnt w wr mb L k l)) (fun u i wr => n - (intOf i).toNat)
 case atStart => exact ⟨0, Nat.zero_le _, rfl, rfl, hide ⟨[], HS.out⟩⟩
 case round =>
  obtain ⟨k, hk, rfl, rfl, HR⟩ := hrel
  have htl := totalOf_le L k
  have hTb : (totalOf L : Int) ≤ 1048576 := Int.le_trans HT.out hr2
  by_cases hlt : k < n
  ·obtain ⟨b1, rfl, ⟨x, d⟩, hs, e1, bo1, bc1, e2, s1⟩ := H1.out k (by rw [HX.out]; exact hlt)
   obtain ⟨l, hR⟩ := HR.out
   replace e1 := hR.kept.cellOf e1 (by simp)
   replace e2 := hR.kept.cellOf e2 (by simp)
   have htk := totalOf_take L k _ hs
   have htl2 := totalOf_le L (k + 1)
   dsimp only at htk e1 e2 s1
   have hnm : isNm x = true := HN.out _ (List.mem_of_getElem? hs)
   have hxl : x.length ≤ 112 := isNm_len hnm
   have hA : Kept [] wr (wr.alloc (.cells #[encStr x, .slice bo1 d.length bc1] 26)) := (Kept.refl [] wr).alloc _
   have hMA : Mi (wr.alloc (.cells #[encStr x, .slice bo1 d.length bc1] 26)) mb l := World.ownsMap.alloc hR.map _
   have hlk := hMA.look x (by unfold maxLen; omega) (get_no l x (hR.fresh HD.out hs))
   obtain ⟨w5, hup, hM5, hK5⟩ := hMA.put x (by unfold maxLen; omega) (by rw [hR.len]; unfold maxLen; omega)
   have H5 := hide (show ∃ l, Cnt w w5 mb L (k + 1) l from ⟨_, hR.step HD.out hs hA hM5 hK5⟩)
   have hcell : (wr.alloc (.cells #[encStr x, .slice bo1 d.length bc1] 26)).heap[wr.heap.size]? = some (.cells #[encStr x, .slice bo1 d.length bc1] 26 (0, 0)) := (MapKept.heap_alloc wr _).1
   have hcell5 : w5.cell? ⟨wr.heap.size, 1, none⟩ = some (.slice bo1 d.length bc1) := by
    have hne : wr.heap.size ≠ mb := by
     intro e
     have : mb < wr.heap.size := World.ownsMap.lt hR.map
     omega
    have h5 := (hK5.block wr.heap.size (by simp) hne).trans hcell
    rw [cell_of_row _ _ _ _ _ _ h5]
    rfl
   have hin := isName_ok x (wr.alloc (.cells #[encStr x, .slice bo1 d.length bc1] 26)) (by omega)
   rw [hnm] at hin
   clear hR s1 hs hM5 hK5 hMA hA HR hnm
   generalize d.length = z at *
   go_wp2_with (go_at_call 64; refine hin.mono ?_; rintro e w' ⟨rfl, hww⟩; obtain rfl := hww.symm; clear hin)
   go_roundw
   case rel => exact ⟨k + 1, by omega, by go_num, by rw [htk]; go_num, H5⟩
   case measure => simp [intOf]; omega
  ·have hkn : k = n := by omega
   subst hkn
   have hte : L.take k = L := List.take_of_length_le (by rw [HX.out]; exact Nat.le_refl _)
   rw [hte] at htl
   obtain ⟨l, hR⟩ := HR.out
   have hlen : (Builtin.len_ #[109] 3 #[.map (some mb)]).run Tryz.prog wr = .ok (.int .i64 k) wr := by
    have := World.ownsMap.len hR.map Tryz.underlying109 3
    rw [nmD_size, hR.len] at this
    exact this
   have hT2 := HT.out
   have HK := hide hR.kept
   rw [hte]
   clear hR hte
   go_wp2
   go_ret
   exact ⟨rfl, HK.out⟩
end

section
open Go.RowKit Dsk
set_option linter.unusedVariables false
set_option linter.unusedSimpArgs false
def Mk (w : World) (b : Nat) (l : Nm) : Prop := w.ownsMap Tryz.prog 9 intElem b l.length (nmD (fun k => k) l)
theorem Mk.of {w : World} {b n : Nat} {l : Nm} (h : w.ownsMap Tryz.prog 9 intElem b n (nmD (fun k => k) l)) : Mk w b l := by
 obtain ⟨es, clock, hb, F, hs, hD⟩ := h
 refine ⟨es, clock, hb, F, ?_, hD⟩
 have h1 := congrArg Maps.size hD
 rw [nmD_size, Maps.size_eq, length_sorted, List.length_map] at h1
 have h2 : es.toList.length = es.size := Array.length_toList
 omega
theorem Mk.look {w : World} {b : Nat} {l : Nm} (h : Mk w b l) (n : By) (hn : n.length ≤ maxLen) :
  (Instr.lookup 109 (.map (some b)) (encStr n) false).run Tryz.prog w = .ok (.int .i64 (((l.get n).getD 0 : Nat) : Int)) w := by
 obtain ⟨v, ps, hrun, hv⟩ := World.ownsMap.lookup h Tryz.keyed Tryz.underlying109 (z := .int .i64 0) (by kernel_rfl) (zd := .lit (.int .i64 0)) (zp := []) rfl (key_str n hn)
 rw [hrun]
 rw [nmD_at] at hv
 cases hg : l.get n with
 | none => rw [hg] at hv; rw [intElem_inv hv]; rfl
 | some c => rw [hg] at hv; rw [intElem_inv hv]; rfl
set_option maxRecDepth 100000 in
theorem Mk.put {w : World} {b : Nat} {l : Nm} (h : Mk w b l) (n : By) (c : Nat) (hn : n.length ≤ maxLen) (hl : l.length < maxLen) :
  ∃ w', (Instr.mapUpdate 109 (.map (some b)) (encStr n) (.int .i64 (c : Int))).run Tryz.prog w = .ok () w' ∧ Mk w' b (l.put n c) ∧ Keep (· = b) w w' := by
 obtain ⟨w', hrun, h1, h2⟩ := World.ownsMap.update h Tryz.keyed Tryz.underlying109 hl (key_str n hn) (val := .int .i64 (c : Int)) (d := .lit (.int .i64 (((fun k => k : Nat → Nat) c : Nat) : Int))) (ps := []) rfl
 rw [nmD_put (fun k => k) l n c] at h1
 exact ⟨w', hrun, Mk.of h1, (Keep.refl _ w).grown h2 (fun j e _ => by injection e with e; exact e.symm)⟩
namespace Dsk
theorem get_isSome {l : Nm} {n : By} : (∃ c, l.get n = some c) ↔ n ∈ l.keys := by
 unfold Nm.get Nm.keys
 constructor
 ·rintro ⟨c, hc⟩
  cases hf : l.find? (fun p => p.1 == n) with
  | none => rw [hf] at hc; cases hc
  | some p => exact List.mem_map.2 ⟨p, List.mem_of_find?_eq_some hf, by simpa using List.find?_some hf⟩
 ·intro h
  obtain ⟨p, hp, rfl⟩ := List.mem_map.1 h
  cases hf : l.find? (fun q => q.1 == p.1) with
  | none => exact absurd (List.find?_eq_none.1 hf p hp) (by simp)
  | some q => exact ⟨q.2, rfl⟩
theorem put_keys {l : Nm} {n m : By} {c : Nat} : m ∈ (l.put n c).keys ↔ m = n ∨ m ∈ l.keys := by
 unfold Nm.keys
 simp only [List.mem_map]
 constructor
 ·rintro ⟨p, hp, rfl⟩
  rcases Nm.mem_put.1 hp with rfl | ⟨h, _⟩
  ·exact .inl rfl
  ·exact .inr ⟨p, h, rfl⟩
 ·rintro (rfl | ⟨p, hp, rfl⟩)
  ·exact ⟨(m, c), Nm.mem_put.2 (.inl rfl), rfl⟩
  ·by_cases e : p.1 = n
   ·exact ⟨(n, c), Nm.mem_put.2 (.inl rfl), e.symm⟩
   ·exact ⟨p, Nm.mem_put.2 (.inr ⟨hp, e⟩), rfl⟩
theorem del_len_some {l : Nm} (h : l.Up) {n : By} (hn : n ∈ l.keys) : (l.del n).length + 1 = l.length := by
 induction l with
 | nil => cases hn
 | cons x r ih =>
  have hx : ∀ p ∈ r, bytesBefore x.1 p.1 = true := (List.pairwise_cons.1 h).1
  have hr : Nm.Up r := (List.pairwise_cons.1 h).2
  unfold Nm.del
  rw [List.filter_cons]
  by_cases e : x.1 = n
  ·subst e
   have : r.filter (fun p => !(p.1 == x.1)) = r := by
    rw [List.filter_eq_self]
    intro p hp
    have := hx p hp
    simp only [Bool.not_eq_true', beq_eq_false_iff_ne]
    intro e
    rw [e, before_irrefl] at this; cases this
   simp [this]
  ·have hn' : n ∈ Nm.keys r := by
    rcases List.mem_cons.1 hn with h1 | h1
    ·exact absurd h1.symm e
    ·exact h1
   have := ih hr hn'
   unfold Nm.del at this
   simp [e]
   omega
structure Ct5 (ns : List By) (l : Nm) : Prop where
 up : l.Up
 mem : ∀ n, n ∈ l.keys ↔ n ∈ ns
 le : l.length ≤ ns.length
 eq : l.length = ns.length ↔ ns.Nodup
 cnt : ∀ n, (l.get n).getD 0 ≤ ns.length
theorem Ct5.start : Ct5 [] [] := ⟨List.Pairwise.nil, by simp [Nm.keys], Nat.le_refl _, by simp, fun n => by simp [Nm.get]⟩
theorem get_put {l : Nm} (h : l.Up) (n m : By) (c : Nat) : (l.put n c).get m = if m = n then some c else l.get m := by
 by_cases e : m = n
 ·subst e
  rw [if_pos rfl]
  exact (Nm.get_some (h.put m c)).2 (Nm.mem_put.2 (.inl rfl))
 ·rw [if_neg e]
  cases hg : l.get m with
  | some k => exact (Nm.get_some (h.put n c)).2 (Nm.mem_put.2 (.inr ⟨(Nm.get_some h).1 hg, e⟩))
  | none =>
   cases hg2 : (l.put n c).get m with
   | none => rfl
   | some k =>
    rcases Nm.mem_put.1 ((Nm.get_some (h.put n c)).1 hg2) with h1 | ⟨h1, _⟩
    ·exact absurd (congrArg Prod.fst h1) e
    ·rw [(Nm.get_some h).2 h1] at hg; cases hg
theorem Ct5.step {ns : List By} {l : Nm} (h : Ct5 ns l) (n : By) : Ct5 (ns ++ [n]) (l.put n ((l.get n).getD 0 + 1)) := by
 have hl : (l.put n ((l.get n).getD 0 + 1)).length = (l.del n).length + 1 := by unfold Nm.put; exact Nm.ins_length _ _
 refine ⟨h.up.put _ _, fun m => ?_, ?_, ?_, fun m => ?_⟩
 ·rw [put_keys, h.mem, List.mem_append, List.mem_singleton]; exact or_comm
 ·have := Nm.del_length_le l n
  have := h.le
  rw [hl]; simp; omega
 ·rw [List.nodup_append, hl]
  have hle := h.le
  have heq := h.eq
  by_cases hm : n ∈ ns
  ·have := del_len_some h.up ((h.mem n).2 hm)
   constructor
   ·intro e; simp at e; omega
   ·rintro ⟨_, _, hd⟩; exact absurd rfl (hd n hm n (by simp))
  ·have hd : l.del n = l := del_none l n (fun p hp e => hm ((h.mem n).1 (List.mem_map.2 ⟨p, hp, e⟩)))
   rw [hd]
   constructor
   ·intro e
    refine ⟨heq.1 (by simpa using e), by simp, fun a ha b hb e2 => ?_⟩
    simp only [List.mem_singleton] at hb
    subst hb; subst e2; exact hm ha
   ·rintro ⟨h1, _⟩
    have := heq.2 h1
    simp [this]
 ·rw [get_put h.up]
  have := h.cnt m
  have := h.cnt n
  split <;> simp <;> omega
def loadE (r : Int) (L : List (By × By)) : Int :=
 if ¬ (1 ≤ r ∧ r ≤ 1048576) then 1 else if 256 < L.length then 56 else if ¬ (∀ f ∈ L, isNm f.1 = true) then 51 else if ¬ (L.map (·.1)).Nodup then 52 else if r < (totalOf L : Int) then 55 else 0
end Dsk
structure Cng (w wr : World) (b : Nat) (L : List (By × By)) (k : Nat) (l : Nm) : Prop where
 map : Mk wr b l
 ct : Ct5 ((L.take k).map (·.1)) l
 nm : ∀ f ∈ L.take k, isNm f.1 = true
 kept : Kept [] w wr
 new : w.heap.size ≤ b
theorem Cng.step {w wr wA w' : World} {b k : Nat} {L : List (By × By)} {l : Nm} {f : By × By} (h : Cng w wr b L k l) (hf : L[k]? = some f) (hn : isNm f.1 = true) (hA : Kept [] wr wA) (hm : Mk w' b (l.put f.1 ((l.get f.1).getD 0 + 1))) (hK : Keep (· = b) wA w') : Cng w w' b L (k + 1) (l.put f.1 ((l.get f.1).getD 0 + 1)) := by
 have h1 := h.kept.trans hA (by simp)
 have htk : L.take (k + 1) = L.take k ++ [f] := by rw [List.take_add_one, hf]; rfl
 refine ⟨hm, ?_, fun g hg => ?_, ?_, h.new⟩
 ·rw [htk, List.map_append]; exact h.ct.step f.1
 ·rw [htk] at hg
  rcases List.mem_append.1 hg with hg | hg
  ·exact h.nm g hg
  ·simp only [List.mem_singleton] at hg; rw [hg]; exact hn
 ·have hn := h.new
  exact ⟨hK.os.trans h1.os, hK.tape.trans h1.tape, hK.output.trans h1.output, Nat.le_trans h1.size hK.size, fun i hi _ => (hK.block i (Nat.lt_of_lt_of_le hi h1.size) (by omega)).trans (h1.block i hi (by simp))⟩
set_option maxHeartbeats 3200000 in
set_option maxRecDepth 100000 in
theorem refused_any (r : Int) (ao : Option Addr) (n c : Nat) (L : List (By × By)) (w : World) (hx : L.length = n) (hn : n ≤ 4611686018427387900) (hT : totalOf L ≤ 1000000) (hM : ∀ f ∈ L, f.1.length ≤ 4611686018427387900) (h1 : Fis w ao L) :
  Calls Tryz.prog 13 #[.int .i64 r, .slice ao n c] w fun e w' => e = .returned (.int .i64 (loadE r L)) ∧ Kept [] w w' := by
 by_cases hr1 : 1 ≤ r
 ·by_cases hr2 : r ≤ 1048576
  ·by_cases hn2 : n ≤ 256
   ·have hmm := @run_makeMap Tryz.prog
    have HX := hide hx
    have H1 := hide h1
    have HM := hide hM
    have HT := hide hT
    have HE : Hid (loadE r L = if ¬ (∀ f ∈ L, isNm f.1 = true) then 51 else if ¬ (L.map (·.1)).Nodup then 52 else if r < (totalOf L : Int) then 55 else 0) := hide (by unfold loadE; rw [if_neg (by simp [hr1, hr2]), if_neg (by omega)])
    have HS : Hid (Cng w (w.alloc (.map #[] 0)) w.heap.size L 0 []) := hide ⟨World.ownsMap_made (H := Unit) w Tryz.prog 9 intElem, Ct5.start, by simp, (Kept.refl [] w).alloc _, Nat.le_refl _⟩
    clear hx h1 hM hT
    go_enter Tryz.func13, Tryz.ntmps13
    go_wp2
    generalize w.heap.size = mb at HS ⊢
    go_loopw [6, 21] (fun u i wr => ∃ k : Nat, k ≤ n ∧ i = .int .i64 k ∧ u = .int .i64 (totalOf (L.take k) : Nat) ∧ Hid (∃ l, Cng w wr mb L k l)) (fun u i wr => n - (intOf i).toNat)
    case atStart => exact ⟨0, Nat.zero_le _, rfl, rfl, hide ⟨[], HS.out⟩⟩
    case round =>
     obtain ⟨k, hk, rfl, rfl, HR⟩ := hrel
     have htl := totalOf_le L k
     have hTb := HT.out
     by_cases hlt : k < n
     ·obtain ⟨b1, rfl, ⟨x, d⟩, hs, e1, bo1, bc1, e2, s1⟩ := H1.out k (by rw [HX.out]; exact hlt)
      obtain ⟨l, hR⟩ := HR.out
      replace e1 := hR.kept.cellOf e1 (by simp)
      replace e2 := hR.kept.cellOf e2 (by simp)
      have htk := totalOf_take L k _ hs
      have htl2 := totalOf_le L (k + 1)
      have hxl : x.length ≤ 4611686018427387900 := HM.out _ (List.mem_of_getElem? hs)
      dsimp only at htk e1 e2 s1
      have hA : Kept [] wr (wr.alloc (.cells #[encStr x, .slice bo1 d.length bc1] 26)) := (Kept.refl [] wr).alloc _
      have hin := isName_ok x (wr.alloc (.cells #[encStr x, .slice bo1 d.length bc1] 26)) (by omega)
      by_cases hnm : isNm x = true
      ·have hMA : Mk (wr.alloc (.cells #[encStr x, .slice bo1 d.length bc1] 26)) mb l := World.ownsMap.alloc hR.map _
       have hx12 := isNm_len hnm
       have hlk := hMA.look x (by unfold maxLen; omega)
       have hcl : (l.get x).getD 0 ≤ 256 := by have := hR.ct.cnt x; simp at this; omega
       have hll : l.length ≤ 256 := by have := hR.ct.le; simp at this; omega
       obtain ⟨w5, hup, hM5, hK5⟩ := hMA.put x ((l.get x).getD 0 + 1) (by unfold maxLen; omega) (by unfold maxLen; omega)
       have H5 := hide (show ∃ l, Cng w w5 mb L (k + 1) l from ⟨_, hR.step hs hnm hA hM5 hK5⟩)
       have hcell : (wr.alloc (.cells #[encStr x, .slice bo1 d.length bc1] 26)).heap[wr.heap.size]? = some (.cells #[encStr x, .slice bo1 d.length bc1] 26 (0, 0)) := (MapKept.heap_alloc wr _).1
       have hcell5 : w5.cell? ⟨wr.heap.size, 1, none⟩ = some (.slice bo1 d.length bc1) := by
        have hne : wr.heap.size ≠ mb := by
         intro e
         have : mb < wr.heap.size := World.ownsMap.lt hR.map
         omega
        have h5 := (hK5.block wr.heap.size (by simp) hne).trans hcell
        rw [cell_of_row _ _ _ _ _ _ h5]
        rfl
       rw [hnm] at hin
       clear hR s1 hs hM5 hK5 hMA hA HR hnm hx12 hll
       generalize d.length = z at *
       generalize (l.get x).getD 0 = cn at *
       have hup' : (Instr.mapUpdate 109 (.map (some mb)) (encStr x) (.int .i64 ((cn : Int) + 1))).run Tryz.prog (wr.alloc (.cells #[encStr x, .slice bo1 z bc1] 26)) = .ok () w5 := by rw [← hup]; rfl
       clear hup
       go_wp2_with (go_at_call 64; refine hin.mono ?_; rintro e w' ⟨rfl, hww⟩; obtain rfl := hww.symm; clear hin)
       go_roundw
       case rel => exact ⟨k + 1, by omega, by go_num, by rw [htk]; go_num, H5⟩
       case measure => simp [intOf]; omega
      ·have hnf : isNm x = false := by simpa using hnm
       rw [hnf] at hin
       have hbad : ¬ ∀ f ∈ L, isNm f.1 = true := fun h => hnm (h _ (List.mem_of_getElem? hs))
       have he := HE.out
       rw [if_pos hbad] at he
       have HKA := hide (hR.kept.trans hA (by simp))
       have HEE := hide he
       clear hR s1 hs hA HR hnm hnf hbad he htk htl2
       generalize d.length = z at *
       go_wp2_with (go_at_call 64; refine hin.mono ?_; rintro e w' ⟨rfl, hww⟩; obtain rfl := hww.symm; clear hin)
       go_ret
       exact ⟨by rw [HEE.out]; rfl, HKA.out⟩
     ·have hkn : k = n := by omega
      subst hkn
      have hte : L.take k = L := List.take_of_length_le (by rw [HX.out]; exact Nat.le_refl _)
      obtain ⟨l, hR⟩ := HR.out
      have hlen : (Builtin.len_ #[109] 3 #[.map (some mb)]).run Tryz.prog wr = .ok (.int .i64 l.length) wr := by
       have := World.ownsMap.len hR.map Tryz.underlying109 3
       rw [nmD_size] at this
       exact this
      have hct := hR.ct
      have hnms := hR.nm
      rw [hte] at hct hnms htl
      have hle := hct.le
      have heq := hct.eq
      rw [List.length_map, HX.out] at hle heq
      have he := HE.out
      rw [if_neg (not_not_intro hnms)] at he
      have HK := hide hR.kept
      rw [hte]
      clear hR hte hct hnms HR
      generalize l.length = ll at *
      by_cases hnd : (L.map (·.1)).Nodup
      ·rw [if_neg (not_not_intro hnd)] at he
       have hll : ll = k := heq.2 hnd
       subst hll
       clear heq hnd
       by_cases hfull : r < (totalOf L : Int)
       ·rw [if_pos hfull] at he
        have HEE := hide he
        clear he
        go_wp2
        go_ret
        exact ⟨by rw [HEE.out]; rfl, HK.out⟩
       ·rw [if_neg hfull] at he
        have HEE := hide he
        clear he
        go_wp2
        go_ret
        exact ⟨by rw [HEE.out]; rfl, HK.out⟩
      ·rw [if_pos hnd] at he
       have hll : (ll : Int) < (k : Int) := by
        have : ll ≠ k := fun e => hnd (heq.1 e)
        omega
       have HEE := hide he
       clear heq hnd he
       go_wp2
       go_ret
       exact ⟨by rw [HEE.out]; rfl, HK.out⟩
   ·have he : loadE r L = 56 := by unfold loadE; rw [if_neg (by simp [hr1, hr2]), if_pos (by omega)]
    rw [he]
    clear h1 hM hT hx he
    go_enter Tryz.func13, Tryz.ntmps13
    go_wp2
    go_ret
    exact ⟨rfl, Kept.refl [] w⟩
  ·have he : loadE r L = 1 := by unfold loadE; rw [if_pos (by simp [hr2])]
   rw [he]
   clear h1 hM hT hx he
   go_enter Tryz.func13, Tryz.ntmps13
   go_wp2
   go_ret
   exact ⟨rfl, Kept.refl [] w⟩
 ·have he : loadE r L = 1 := by unfold loadE; rw [if_pos (by simp [hr1])]
  rw [he]
  clear h1 hM hT hx he
  go_enter Tryz.func13, Tryz.ntmps13
  go_wp2
  go_ret
  exact ⟨rfl, Kept.refl [] w⟩
end

section
open Go.RowKit Go.Extern.Stop Go.Stop Go.Extern
set_option linter.unusedVariables false
set_option linter.unusedSimpArgs false
end

section
open Go.RowKit Go.Extern.Stop Go.Stop Go.Extern
set_option linter.unusedVariables false
set_option linter.unusedSimpArgs false
end

section
open Go.RowKit Go.Extern.Stop Go.Stop Go.Extern Dsk
set_option linter.unusedVariables false
set_option linter.unusedSimpArgs false
end

end Go.Proofs.YteckiednnaianaaGreat
