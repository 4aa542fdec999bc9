import Derived.Test.YtemlbmamcbmnjaaGreatDoorFodp
import Derived.Test.YtemlbmamcbmnjaaGreatDoorFqap
namespace Go.Proofs.YtemlbmamcbmnjaaGreatDoor
section
open Go.RowKit Dsk
set_option linter.unusedVariables false
set_option linter.unusedSimpArgs false
/-- A map that counts names: how often each came. -/
def Mk (w : World) (b : Nat) (l : Nm) : Prop := w.ownsMap Tryz.prog 9 intElem b l.length (nmD (fun k => k) l)
theorem Mk.of {w : World} {b n : Nat} {l : Nm} (h : w.ownsMap Tryz.prog 9 intElem b n (nmD (fun k => k) l)) : Mk w b l := by
  obtain ⟨es, clock, hb, F, hs, hD⟩ := h
  refine ⟨es, clock, hb, F, ?_, hD⟩
  have h1 := congrArg Maps.size hD
  rw [nmD_size, Maps.size_eq, length_sorted, List.length_map] at h1
  have h2 : es.toList.length = es.size := Array.length_toList
  omega
theorem Mk.look {w : World} {b : Nat} {l : Nm} (h : Mk w b l) (n : By) (hn : n.length ≤ maxLen) :
    (Instr.lookup 206 (.map (some b)) (encStr n) false).run Tryz.prog w = .ok (.int .i64 (((l.get n).getD 0 : Nat) : Int)) w := by
  obtain ⟨v, ps, hrun, hv⟩ := World.ownsMap.lookup h Tryz.keyed Tryz.underlying206 (z := .int .i64 0) (by kernel_rfl) (zd := .lit (.int .i64 0)) (zp := []) rfl (key_str n hn)
  rw [hrun]
  rw [nmD_at] at hv
  cases hg : l.get n with
  | none => rw [hg] at hv; rw [intElem_inv hv]; rfl
  | some c => rw [hg] at hv; rw [intElem_inv hv]; rfl
set_option maxRecDepth 100000 in
theorem Mk.put {w : World} {b : Nat} {l : Nm} (h : Mk w b l) (n : By) (c : Nat) (hn : n.length ≤ maxLen) (hl : l.length < maxLen) :
    ∃ w', (Instr.mapUpdate 206 (.map (some b)) (encStr n) (.int .i64 (c : Int))).run Tryz.prog w = .ok () w' ∧ Mk w' b (l.put n c) ∧ Keep (· = b) w w' := by
  obtain ⟨w', hrun, h1, h2⟩ := World.ownsMap.update h Tryz.keyed Tryz.underlying206 hl (key_str n hn) (val := .int .i64 (c : Int)) (d := .lit (.int .i64 (((fun k => k : Nat → Nat) c : Nat) : Int))) (ps := []) rfl
  rw [nmD_put (fun k => k) l n c] at h1
  exact ⟨w', hrun, Mk.of h1, (Keep.refl _ w).grown h2 (fun j e _ => by injection e with e; exact e.symm)⟩
namespace Dsk
theorem get_isSome {l : Nm} {n : By} : (∃ c, l.get n = some c) ↔ n ∈ l.keys := by
  unfold Nm.get Nm.keys
  constructor
  · rintro ⟨c, hc⟩
    cases hf : l.find? (fun p => p.1 == n) with
    | none => rw [hf] at hc; cases hc
    | some p => exact List.mem_map.2 ⟨p, List.mem_of_find?_eq_some hf, by simpa using List.find?_some hf⟩
  · intro h
    obtain ⟨p, hp, rfl⟩ := List.mem_map.1 h
    cases hf : l.find? (fun q => q.1 == p.1) with
    | none => exact absurd (List.find?_eq_none.1 hf p hp) (by simp)
    | some q => exact ⟨q.2, rfl⟩
theorem put_keys {l : Nm} {n m : By} {c : Nat} : m ∈ (l.put n c).keys ↔ m = n ∨ m ∈ l.keys := by
  unfold Nm.keys
  simp only [List.mem_map]
  constructor
  · rintro ⟨p, hp, rfl⟩
    rcases Nm.mem_put.1 hp with rfl | ⟨h, _⟩
    · exact .inl rfl
    · exact .inr ⟨p, h, rfl⟩
  · rintro (rfl | ⟨p, hp, rfl⟩)
    · exact ⟨(m, c), Nm.mem_put.2 (.inl rfl), rfl⟩
    · by_cases e : p.1 = n
      · exact ⟨(n, c), Nm.mem_put.2 (.inl rfl), e.symm⟩
      · exact ⟨p, Nm.mem_put.2 (.inr ⟨hp, e⟩), rfl⟩
theorem del_len_some {l : Nm} (h : l.Up) {n : By} (hn : n ∈ l.keys) : (l.del n).length + 1 = l.length := by
  induction l with
  | nil => cases hn
  | cons x r ih =>
    have hx : ∀ p ∈ r, bytesBefore x.1 p.1 = true := (List.pairwise_cons.1 h).1
    have hr : Nm.Up r := (List.pairwise_cons.1 h).2
    unfold Nm.del
    rw [List.filter_cons]
    by_cases e : x.1 = n
    · subst e
      have : r.filter (fun p => !(p.1 == x.1)) = r := by
        rw [List.filter_eq_self]
        intro p hp
        have := hx p hp
        simp only [Bool.not_eq_true', beq_eq_false_iff_ne]
        intro e
        rw [e, before_irrefl] at this; cases this
      simp [this]
    · have hn' : n ∈ Nm.keys r := by
        rcases List.mem_cons.1 hn with h1 | h1
        · exact absurd h1.symm e
        · exact h1
      have := ih hr hn'
      unfold Nm.del at this
      simp [e]
      omega
/-- The names that came, counted. -/
structure Ct5 (ns : List By) (l : Nm) : Prop where
  up : l.Up
  mem : ∀ n, n ∈ l.keys ↔ n ∈ ns
  le : l.length ≤ ns.length
  eq : l.length = ns.length ↔ ns.Nodup
  cnt : ∀ n, (l.get n).getD 0 ≤ ns.length
theorem Ct5.start : Ct5 [] [] := ⟨List.Pairwise.nil, by simp [Nm.keys], Nat.le_refl _, by simp, fun n => by simp [Nm.get]⟩
theorem get_put {l : Nm} (h : l.Up) (n m : By) (c : Nat) : (l.put n c).get m = if m = n then some c else l.get m := by
  by_cases e : m = n
  · subst e
    rw [if_pos rfl]
    exact (Nm.get_some (h.put m c)).2 (Nm.mem_put.2 (.inl rfl))
  · rw [if_neg e]
    cases hg : l.get m with
    | some k => exact (Nm.get_some (h.put n c)).2 (Nm.mem_put.2 (.inr ⟨(Nm.get_some h).1 hg, e⟩))
    | none =>
      cases hg2 : (l.put n c).get m with
      | none => rfl
      | some k =>
        rcases Nm.mem_put.1 ((Nm.get_some (h.put n c)).1 hg2) with h1 | ⟨h1, _⟩
        · exact absurd (congrArg Prod.fst h1) e
        · rw [(Nm.get_some h).2 h1] at hg; cases hg
theorem Ct5.step {ns : List By} {l : Nm} (h : Ct5 ns l) (n : By) : Ct5 (ns ++ [n]) (l.put n ((l.get n).getD 0 + 1)) := by
  have hl : (l.put n ((l.get n).getD 0 + 1)).length = (l.del n).length + 1 := by unfold Nm.put; exact Nm.ins_length _ _
  refine ⟨h.up.put _ _, fun m => ?_, ?_, ?_, fun m => ?_⟩
  · rw [put_keys, h.mem, List.mem_append, List.mem_singleton]; exact or_comm
  · have := Nm.del_length_le l n
    have := h.le
    rw [hl]; simp; omega
  · rw [List.nodup_append, hl]
    have hle := h.le
    have heq := h.eq
    by_cases hm : n ∈ ns
    · have := del_len_some h.up ((h.mem n).2 hm)
      constructor
      · intro e; simp at e; omega
      · rintro ⟨_, _, hd⟩; exact absurd rfl (hd n hm n (by simp))
    · have hd : l.del n = l := del_none l n (fun p hp e => hm ((h.mem n).1 (List.mem_map.2 ⟨p, hp, e⟩)))
      rw [hd]
      constructor
      · intro e
        refine ⟨heq.1 (by simpa using e), by simp, fun a ha b hb e2 => ?_⟩
        simp only [List.mem_singleton] at hb
        subst hb; subst e2; exact hm ha
      · rintro ⟨h1, _⟩
        have := heq.2 h1
        simp [this]
  · rw [get_put h.up]
    have := h.cnt m
    have := h.cnt n
    split <;> simp <;> omega
/-- Why there can be no disk with these files. -/
def loadE (r : Int) (L : List (By × By)) : Int :=
  if ¬ (1 ≤ r ∧ r ≤ 1048576) then 1 else if 256 < L.length then 56 else if ¬ (∀ f ∈ L, isNm f.1 = true) then 51 else if ¬ (L.map (·.1)).Nodup then 52 else if r < (totalOf L : Int) then 55 else 0
end Dsk
/-- While they are counted. -/
structure Cng (w wr : World) (b : Nat) (L : List (By × By)) (k : Nat) (l : Nm) : Prop where
  map : Mk wr b l
  ct : Ct5 ((L.take k).map (·.1)) l
  nm : ∀ f ∈ L.take k, isNm f.1 = true
  kept : Kept [] w wr
  new : w.heap.size ≤ b
theorem Cng.step {w wr wA w' : World} {b k : Nat} {L : List (By × By)} {l : Nm} {f : By × By} (h : Cng w wr b L k l) (hf : L[k]? = some f) (hn : isNm f.1 = true) (hA : Kept [] wr wA) (hm : Mk w' b (l.put f.1 ((l.get f.1).getD 0 + 1))) (hK : Keep (· = b) wA w') : Cng w w' b L (k + 1) (l.put f.1 ((l.get f.1).getD 0 + 1)) := by
  have h1 := h.kept.trans hA (by simp)
  have htk : L.take (k + 1) = L.take k ++ [f] := by rw [List.take_add_one, hf]; rfl
  refine ⟨hm, ?_, fun g hg => ?_, ?_, h.new⟩
  · rw [htk, List.map_append]; exact h.ct.step f.1
  · rw [htk] at hg
    rcases List.mem_append.1 hg with hg | hg
    · exact h.nm g hg
    · simp only [List.mem_singleton] at hg; rw [hg]; exact hn
  · have hn := h.new
    exact ⟨hK.os.trans h1.os, hK.tape.trans h1.tape, hK.output.trans h1.output, Nat.le_trans h1.size hK.size, fun i hi _ => (hK.block i (Nat.lt_of_lt_of_le hi h1.size) (by omega)).trans (h1.block i hi (by simp))⟩

set_option maxHeartbeats 3200000 in
set_option maxRecDepth 100000 in
theorem refused_any (r : Int) (ao : Option Addr) (n c : Nat) (L : List (By × By)) (w : World) (hx : L.length = n) (hn : n ≤ 4611686018427387900) (hT : totalOf L ≤ 1000000) (hM : ∀ f ∈ L, f.1.length ≤ 4611686018427387900) (h1 : Fis w ao L) :
    Calls Tryz.prog 101 #[.int .i64 r, .slice ao n c] w fun e w' => e = .returned (.int .i64 (loadE r L)) ∧ Kept [] w w' := by
  by_cases hr1 : 1 ≤ r
  · by_cases hr2 : r ≤ 1048576
    · by_cases hn2 : n ≤ 256
      · have hmm := @run_makeMap Tryz.prog
        have HX := hide hx
        have H1 := hide h1
        have HM := hide hM
        have HT := hide hT
        have HE : Hid (loadE r L = if ¬ (∀ f ∈ L, isNm f.1 = true) then 51 else if ¬ (L.map (·.1)).Nodup then 52 else if r < (totalOf L : Int) then 55 else 0) := hide (by unfold loadE; rw [if_neg (by simp [hr1, hr2]), if_neg (by omega)])
        have HS : Hid (Cng w (w.alloc (.map #[] 0)) w.heap.size L 0 []) := hide ⟨World.ownsMap_made (H := Unit) w Tryz.prog 9 intElem, Ct5.start, by simp, (Kept.refl [] w).alloc _, Nat.le_refl _⟩
        clear hx h1 hM hT
        go_enter Tryz.func101, Tryz.ntmps101
        go_wp2
        generalize w.heap.size = mb at HS ⊢
        go_loopw [6, 21] (fun u i wr => ∃ k : Nat, k ≤ n ∧ i = .int .i64 k ∧ u = .int .i64 (totalOf (L.take k) : Nat) ∧ Hid (∃ l, Cng w wr mb L k l)) (fun u i wr => n - (intOf i).toNat)
        case atStart => exact ⟨0, Nat.zero_le _, rfl, rfl, hide ⟨[], HS.out⟩⟩
        case round =>
          obtain ⟨k, hk, rfl, rfl, HR⟩ := hrel
          have htl := totalOf_le L k
          have hTb := HT.out
          by_cases hlt : k < n
          · obtain ⟨b1, rfl, ⟨x, d⟩, hs, e1, bo1, bc1, e2, s1⟩ := H1.out k (by rw [HX.out]; exact hlt)
            obtain ⟨l, hR⟩ := HR.out
            replace e1 := hR.kept.cellOf e1 (by simp)
            replace e2 := hR.kept.cellOf e2 (by simp)
            have htk := totalOf_take L k _ hs
            have htl2 := totalOf_le L (k + 1)
            have hxl : x.length ≤ 4611686018427387900 := HM.out _ (List.mem_of_getElem? hs)
            dsimp only at htk e1 e2 s1
            have hA : Kept [] wr (wr.alloc (.cells #[encStr x, .slice bo1 d.length bc1] 88)) := (Kept.refl [] wr).alloc _
            have hin := isName_ok x (wr.alloc (.cells #[encStr x, .slice bo1 d.length bc1] 88)) (by omega)
            by_cases hnm : isNm x = true
            · have hMA : Mk (wr.alloc (.cells #[encStr x, .slice bo1 d.length bc1] 88)) mb l := World.ownsMap.alloc hR.map _
              have hx12 := isNm_len hnm
              have hlk := hMA.look x (by unfold maxLen; omega)
              have hcl : (l.get x).getD 0 ≤ 256 := by have := hR.ct.cnt x; simp at this; omega
              have hll : l.length ≤ 256 := by have := hR.ct.le; simp at this; omega
              obtain ⟨w5, hup, hM5, hK5⟩ := hMA.put x ((l.get x).getD 0 + 1) (by unfold maxLen; omega) (by unfold maxLen; omega)
              have H5 := hide (show ∃ l, Cng w w5 mb L (k + 1) l from ⟨_, hR.step hs hnm hA hM5 hK5⟩)
              have hcell : (wr.alloc (.cells #[encStr x, .slice bo1 d.length bc1] 88)).heap[wr.heap.size]? = some (.cells #[encStr x, .slice bo1 d.length bc1] 88 (0, 0)) := (MapKept.heap_alloc wr _).1
              have hcell5 : w5.cell? ⟨wr.heap.size, 1, none⟩ = some (.slice bo1 d.length bc1) := by
                have hne : wr.heap.size ≠ mb := by
                  intro e
                  have : mb < wr.heap.size := World.ownsMap.lt hR.map
                  omega
                have h5 := (hK5.block wr.heap.size (by simp) hne).trans hcell
                rw [cell_of_row _ _ _ _ _ _ h5]
                rfl
              rw [hnm] at hin
              clear hR s1 hs hM5 hK5 hMA hA HR hnm hx12 hll
              generalize d.length = z at *
              generalize (l.get x).getD 0 = cn at *
              have hup' : (Instr.mapUpdate 206 (.map (some mb)) (encStr x) (.int .i64 ((cn : Int) + 1))).run Tryz.prog (wr.alloc (.cells #[encStr x, .slice bo1 z bc1] 88)) = .ok () w5 := by rw [← hup]; rfl
              clear hup
              go_wp2_with (go_at_call 95; refine hin.mono ?_; rintro e w' ⟨rfl, hww⟩; obtain rfl := hww.symm; clear hin)
              go_roundw
              case rel => exact ⟨k + 1, by omega, by go_num, by rw [htk]; go_num, H5⟩
              case measure => simp [intOf]; omega
            · have hnf : isNm x = false := by simpa using hnm
              rw [hnf] at hin
              have hbad : ¬ ∀ f ∈ L, isNm f.1 = true := fun h => hnm (h _ (List.mem_of_getElem? hs))
              have he := HE.out
              rw [if_pos hbad] at he
              have HKA := hide (hR.kept.trans hA (by simp))
              have HEE := hide he
              clear hR s1 hs hA HR hnm hnf hbad he htk htl2
              generalize d.length = z at *
              go_wp2_with (go_at_call 95; refine hin.mono ?_; rintro e w' ⟨rfl, hww⟩; obtain rfl := hww.symm; clear hin)
              go_ret
              exact ⟨by rw [HEE.out]; rfl, HKA.out⟩
          · have hkn : k = n := by omega
            subst hkn
            have hte : L.take k = L := List.take_of_length_le (by rw [HX.out]; exact Nat.le_refl _)
            obtain ⟨l, hR⟩ := HR.out
            have hlen : (Builtin.len_ #[206] 3 #[.map (some mb)]).run Tryz.prog wr = .ok (.int .i64 l.length) wr := by
              have := World.ownsMap.len hR.map Tryz.underlying206 3
              rw [nmD_size] at this
              exact this
            have hct := hR.ct
            have hnms := hR.nm
            rw [hte] at hct hnms htl
            have hle := hct.le
            have heq := hct.eq
            rw [List.length_map, HX.out] at hle heq
            have he := HE.out
            rw [if_neg (not_not_intro hnms)] at he
            have HK := hide hR.kept
            rw [hte]
            clear hR hte hct hnms HR
            generalize l.length = ll at *
            by_cases hnd : (L.map (·.1)).Nodup
            · rw [if_neg (not_not_intro hnd)] at he
              have hll : ll = k := heq.2 hnd
              subst hll
              clear heq hnd
              by_cases hfull : r < (totalOf L : Int)
              · rw [if_pos hfull] at he
                have HEE := hide he
                clear he
                go_wp2
                go_ret
                exact ⟨by rw [HEE.out]; rfl, HK.out⟩
              · rw [if_neg hfull] at he
                have HEE := hide he
                clear he
                go_wp2
                go_ret
                exact ⟨by rw [HEE.out]; rfl, HK.out⟩
            · rw [if_pos hnd] at he
              have hll : (ll : Int) < (k : Int) := by
                have : ll ≠ k := fun e => hnd (heq.1 e)
                omega
              have HEE := hide he
              clear heq hnd he
              go_wp2
              go_ret
              exact ⟨by rw [HEE.out]; rfl, HK.out⟩
      · have he : loadE r L = 56 := by unfold loadE; rw [if_neg (by simp [hr1, hr2]), if_pos (by omega)]
        rw [he]
        clear h1 hM hT hx he
        go_enter Tryz.func101, Tryz.ntmps101
        go_wp2
        go_ret
        exact ⟨rfl, Kept.refl [] w⟩
    · have he : loadE r L = 1 := by unfold loadE; rw [if_pos (by simp [hr2])]
      rw [he]
      clear h1 hM hT hx he
      go_enter Tryz.func101, Tryz.ntmps101
      go_wp2
      go_ret
      exact ⟨rfl, Kept.refl [] w⟩
  · have he : loadE r L = 1 := by unfold loadE; rw [if_pos (by simp [hr1])]
    rw [he]
    clear h1 hM hT hx he
    go_enter Tryz.func101, Tryz.ntmps101
    go_wp2
    go_ret
    exact ⟨rfl, Kept.refl [] w⟩
end

section
open Go.RowKit Dsk
set_option linter.unusedVariables false
set_option linter.unusedSimpArgs false
namespace Dsk
open _root_.Go.Proofs.YtemlbmamcbmnjaaGreatDoor.Dsk.Ds
/-- Files: these names, these bytes. -/
def fls (l : Nm) (g : Nat → By) : List (By × By) := l.map (fun p => (p.1, g p.2))
def fnd (L : List (By × By)) (n : By) : Option (By × By) := L.find? (fun f => f.1 == n)
theorem fnd_fls (l : Nm) (g : Nat → By) (n : By) : fnd (fls l g) n = (l.get n).map (fun k => (n, g k)) := by
  unfold fnd fls Nm.get
  induction l with
  | nil => rfl
  | cons x r ih =>
    simp only [List.map_cons, List.find?_cons]
    by_cases e : (x.1 == n) = true
    · rw [e]
      have : x.1 = n := by simpa using e
      simp [this]
    · have e' : (x.1 == n) = false := by simpa using e
      rw [e']
      exact ih
theorem fls_congr {l : Nm} {g g' : Nat → By} (h : ∀ p ∈ l, g p.2 = g' p.2) : fls l g = fls l g' := List.map_congr_left (fun p hp => by rw [h p hp])
theorem get_del {l : Nm} (h : l.Up) (n m : By) : (l.del n).get m = if m = n then none else l.get m := by
  by_cases e : m = n
  · rw [if_pos e]
    exact Nm.get_none.2 (fun p hp => by rw [e]; exact (Nm.mem_del.1 hp).2)
  · rw [if_neg e]
    cases hg : l.get m with
    | none => exact Nm.get_none.2 (fun p hp => (Nm.get_none.1 hg) p (Nm.mem_del.1 hp).1)
    | some k => exact (Nm.get_some (h.del n)).2 (Nm.mem_del.2 ⟨(Nm.get_some h).1 hg, e⟩)
theorem flt_ins (a b : By) (x : By × Nat) (l : Nm) (g : Nat → By) (hx : x.1 = a ∨ x.1 = b) : flt a b (fls (Nm.ins x l) g) = flt a b (fls l g) := by
  have hf : (!(x.1 == a) && !(x.1 == b)) = false := by rcases hx with h | h <;> simp [h]
  induction l with
  | nil => simp [Nm.ins, fls, flt, hf]
  | cons y r ih =>
    unfold Nm.ins
    split
    · show flt a b ((x.1, g x.2) :: fls (y :: r) g) = _
      unfold flt
      rw [List.filter_cons_of_neg (by simp [hf])]
    · show flt a b ((y.1, g y.2) :: fls (Nm.ins x r) g) = flt a b ((y.1, g y.2) :: fls r g)
      unfold flt at ih ⊢
      rw [List.filter_cons, List.filter_cons, ih]
theorem flt_del (a b n : By) (l : Nm) (g : Nat → By) (hn : n = a ∨ n = b) : flt a b (fls (l.del n) g) = flt a b (fls l g) := by
  induction l with
  | nil => rfl
  | cons y r ih =>
    unfold Nm.del at ih ⊢
    rw [List.filter_cons]
    by_cases e : (y.1 == n) = true
    · have e1 : y.1 = n := by simpa using e
      have hf : (!(y.1 == a) && !(y.1 == b)) = false := by rw [e1]; rcases hn with h | h <;> simp [h]
      rw [if_neg (by simp [e]), ih]
      show _ = flt a b ((y.1, g y.2) :: fls r g)
      unfold flt
      rw [List.filter_cons_of_neg (by simp [hf])]
    · rw [if_pos (by simpa using e)]
      show flt a b ((y.1, g y.2) :: fls _ g) = flt a b ((y.1, g y.2) :: fls r g)
      unfold flt at ih ⊢
      rw [List.filter_cons, List.filter_cons, ih]
theorem flt_put (a b n : By) (k : Nat) (l : Nm) (g : Nat → By) (hn : n = a ∨ n = b) : flt a b (fls (l.put n k) g) = flt a b (fls l g) := by
  unfold Nm.put
  rw [flt_ins a b _ _ g hn, flt_del a b n l g hn]
/-- Files beside others: what lies under a name and under that of its draft; all else is the same. -/
structure Vw (was now : List (By × By)) (n q : By) (x y : Option (By × By)) : Prop where
  name : fnd now n = x
  plus : fnd now q = y
  rest : flt n q was = flt n q now

/-- D is S behind some strokes: these changes of names, this new thing. -/
structure Fl (S D : Ds) (b : Bool) (r : List Nc) (t : Option Th) (n : Nat) : Prop where
  on : D.on = b
  safe : D.safe = S.shown
  row : D.row = r
  shown : D.shown = runN S.shown r
  th : ∀ i, i < S.nx → D.th i = S.th i
  new : match t with | none => D.nx = S.nx | some x => D.nx = S.nx + 1 ∧ D.th S.nx = x
  strokes : D.strokes = S.strokes + n
  off : D.off = S.off
  pos : b = false → 1 ≤ S.off
section
variable {S D : Ds} {r : List Nc} {t : Option Th} {n : Nat}
theorem Fl.start (hs : AllSafe S) (hon : S.on = true) : Fl S S true [] none 0 := ⟨hon, hs.safe, hs.row, rfl, fun _ _ => rfl, rfl, rfl, rfl, (fun h => by cases h)⟩
theorem goes_pos {D : Ds} (h : D.goesOff = true) : 1 ≤ D.off := by
  unfold Ds.goesOff at h
  have := of_decide_eq_true h
  omega
theorem Fl.tick (h : Fl S D true r t n) : Fl S D.tick (!D.goesOff) r t (n + 1) :=
  ⟨by show (D.on && !D.goesOff) = _; rw [h.on]; rfl, h.safe, h.row, h.shown, h.th, h.new, by show D.strokes + 1 = _; rw [h.strokes]; omega, h.off, fun e => by rw [← h.off]; exact goes_pos (by simpa using e)⟩
theorem Fl.addName {b : Bool} (h : Fl S D b r t n) (c : Nc) : Fl S (D.addName c) b (r ++ [c]) t n :=
  ⟨h.on, h.safe, by show D.row ++ [c] = _; rw [h.row], by show c.apply D.shown = _; rw [h.shown, runN_snoc], h.th, h.new, h.strokes, h.off, h.pos⟩
theorem Fl.make {b : Bool} (h : Fl S D b r none n) (q : By) : Fl S (({ D with th := upd D.th D.nx Th.new, nx := D.nx + 1 } : Ds).addName (.mk q D.nx)) b (r ++ [.mk q S.nx]) (some Th.new) n := by
  have e : D.nx = S.nx := h.new
  refine ⟨h.on, h.safe, by show D.row ++ [_] = _; rw [h.row, e], by show (Nc.mk q D.nx).apply D.shown = _; rw [h.shown, e, runN_snoc], fun i hi => ?_, ⟨by show D.nx + 1 = _; rw [e], ?_⟩, h.strokes, h.off, h.pos⟩
  · show upd D.th D.nx Th.new i = _
    rw [upd_other _ _ (by omega)]; exact h.th i hi
  · show upd D.th D.nx Th.new S.nx = _
    rw [e, upd_same]
theorem Fl.turn {b : Bool} {x : Th} (h : Fl S D b r (some x) n) (y : Th) : Fl S { D with th := upd D.th S.nx y } b r (some y) n :=
  ⟨h.on, h.safe, h.row, h.shown, fun i hi => by show upd D.th S.nx y i = _; rw [upd_other _ _ (by omega)]; exact h.th i hi, ⟨h.new.1, upd_same _ _ _⟩, h.strokes, h.off, h.pos⟩
/-- Once the names are made safe all is, if the new thing is. -/
theorem Fl.sync (h : Fl S D true r t n) (hs : AllSafe S) (hw : S.Wf) (hr : ∀ p ∈ runN S.shown r, p ∈ S.shown ∨ (p.2 = S.nx ∧ ∃ x, t = some x ∧ x.still)) : AllSafe { D.tick with safe := D.shown, row := [] } := by
  refine ⟨rfl, rfl, fun p hp => ?_⟩
  have hp2 : p ∈ runN S.shown r := by rw [← h.shown]; exact hp
  show (D.th p.2).still
  rcases hr p hp2 with h1 | ⟨h1, x, rfl, h2⟩
  · rw [h.th p.2 (hw.slt (n := p.1) (by exact h1))]
    exact hs.th p h1
  · rw [h1]
    have := h.new.2
    rw [this]; exact h2
theorem Fl.syncNames (h : Fl S D true r t n) : D.syncNames = if D.goesOff = true then (50, D.tick) else (0, { D.tick with safe := D.shown, row := [] }) := by
  unfold Ds.syncNames
  rw [if_pos h.on]
theorem Fl.findq (h : Fl S D true r t n) {q : By} (hq : isNm q = true) : D.find q = match (runN S.shown r).get q with | some k => (0, k) | none => (53, 0) := by
  unfold Ds.find
  rw [if_pos h.on, if_pos hq, h.shown]
  cases (runN S.shown r).get q <;> rfl
theorem Fl.files {b : Bool} (h : Fl S D b r t n) : D.files = fls (runN S.shown r) (fun k => (D.th k).shown) := by
  unfold Ds.files fls
  rw [h.shown]
end
theorem runN_app (l : Nm) (a b : List Nc) : runN l (a ++ b) = runN (runN l a) b := by
  induction a generalizing l with
  | nil => rfl
  | cons c a ih => exact ih _
/-- What was taken away first. -/
def Pre (l : Nm) (q : By) (pre : List Nc) : Prop := (pre = [] ∧ l.get q = none) ∨ pre = [.tk q]
theorem Pre.run {l : Nm} {q : By} {pre : List Nc} (h : Pre l q pre) : runN l pre = l.del q := by
  rcases h with ⟨rfl, h⟩ | rfl
  · exact (Nm.del_none (Nm.get_none.1 h)).symm
  · rfl
theorem Pre.take {l : Nm} {q : By} {pre : List Nc} (h : Pre l q pre) (j : Nat) : runN l (pre.take j) = l ∨ runN l (pre.take j) = l.del q := by
  rcases h with ⟨rfl, h⟩ | rfl
  · left; simp [runN]
  · cases j with
    | zero => left; rfl
    | succ j => right; simp [runN, Nc.apply]
theorem del_del (l : Nm) (q : By) : (l.del q).del q = l.del q := by
  unfold Nm.del
  rw [List.filter_filter]
  congr 1
  funext p
  cases p.1 == q <;> rfl
section
variable {l : Nm} {q n : By} {k : Nat} {pre : List Nc}
theorem run_mk (h : Pre l q pre) : runN l (pre ++ [.mk q k]) = (l.del q).put q k := by rw [runN_app, h.run]; rfl
theorem run_tk (h : Pre l q pre) (hu : l.Up) : runN l (pre ++ [.mk q k, .tk q]) = l.del q := by
  rw [runN_app, h.run]
  show ((l.del q).put q k).del q = l.del q
  unfold Nm.put
  rw [del_del]
  have h0 : ∀ p ∈ l.del q, p.1 ≠ q := fun p hp => (Nm.mem_del.1 hp).2
  generalize l.del q = m at h0
  induction m with
  | nil => simp [Nm.ins, Nm.del]
  | cons y r ih =>
    have hy : y.1 ≠ q := h0 y (by simp)
    have ihr := ih (fun p hp => h0 p (by simp [hp]))
    unfold Nm.ins
    split
    · unfold Nm.del
      rw [List.filter_cons_of_neg (by simp)]
      exact List.filter_eq_self.2 (fun p hp => by simpa using h0 p hp)
    · unfold Nm.del at ihr ⊢
      rw [List.filter_cons_of_pos (by simpa using hy), ihr]
theorem run_gv (h : Pre l q pre) (hu : l.Up) : runN l (pre ++ [.mk q k, .gv q n]) = (((l.del q).put q k).put n k).del q := by
  rw [runN_app, h.run]
  show Nc.apply (.gv q n) ((l.del q).put q k) = _
  have hg : ((l.del q).put q k).get q = some k := get_put_same (hu.del q) q k
  simp only [Nc.apply, hg]
/-- The names that a crash may leave. -/
inductive Lft (l : Nm) (q n : By) (k : Nat) : Bool → Nm → Prop
  | all (b : Bool) : Lft l q n k b l
  | less (b : Bool) : Lft l q n k b (l.del q)
  | plus (b : Bool) : Lft l q n k b ((l.del q).put q k)
  | new : Lft l q n k true ((((l.del q).put q k).put n k).del q)
theorem Pre.left (h : Pre l q pre) (hu : l.Up) (rest : List Nc) (b : Bool) (hr : rest = [] ∨ rest = [.mk q k] ∨ (rest = [.mk q k, .gv q n] ∧ b = true) ∨ rest = [.mk q k, .tk q]) (j : Nat) : Lft l q n k b (runN l ((pre ++ rest).take j)) := by
  have hpre : ∀ i, Lft l q n k b (runN l (pre.take i)) := fun i => by
    rcases h.take i with e | e
    · rw [e]; exact .all b
    · rw [e]; exact .less b
  rw [List.take_append]
  by_cases hj : j ≤ pre.length
  · rw [show j - pre.length = 0 by omega, List.take_zero, List.append_nil]
    exact hpre j
  · rw [List.take_of_length_le (by omega)]
    generalize j - pre.length = i
    have e0 : Lft l q n k b (runN l (pre ++ [])) := by rw [List.append_nil, h.run]; exact .less b
    have e1 : Lft l q n k b (runN l (pre ++ [.mk q k])) := by rw [run_mk h]; exact .plus b
    rcases hr with rfl | rfl | ⟨rfl, rfl⟩ | rfl
    · simpa using e0
    · rcases i with _ | i
      · simpa using e0
      · simpa using e1
    · rcases i with _ | _ | i
      · simpa using e0
      · simpa using e1
      · rw [List.take_of_length_le (by simp), run_gv h hu]
        exact .new
    · rcases i with _ | _ | i
      · simpa using e0
      · simpa using e1
      · rw [List.take_of_length_le (by simp), run_tk h hu]
        exact .less b
theorem Lft.mem {b : Bool} {m : Nm} (h : Lft l q n k b m) (p : By × Nat) (hp : p ∈ m) : p ∈ l ∨ p.2 = k := by
  cases h with
  | all => exact .inl hp
  | less => exact .inl (Nm.mem_del.1 hp).1
  | plus =>
    rcases Nm.mem_put.1 hp with rfl | ⟨h1, _⟩
    · exact .inr rfl
    · exact .inl (Nm.mem_del.1 h1).1
  | new =>
    rcases Nm.mem_put.1 (Nm.mem_del.1 hp).1 with rfl | ⟨h1, _⟩
    · exact .inr rfl
    · rcases Nm.mem_put.1 h1 with rfl | ⟨h2, _⟩
      · exact .inr rfl
      · exact .inl (Nm.mem_del.1 h2).1
end
/-- What lies there behind a Put that was cut off, whatever a crash has left. -/
inductive Cutv (was now : List (By × By)) (n q d : By) : Prop
  | all : now = was → Cutv was now n q d
  | less : Vw was now n q (fnd was n) none → Cutv was now n q d
  | plus (m : Nat) : Vw was now n q (fnd was n) (some (q, d.take m)) → Cutv was now n q d
  | new : Vw was now n q (some (n, d)) none → Cutv was now n q d
theorem Lft.view {S : Ds} {q n d x : By} {b : Bool} {m : Nm} (hw : S.Wf) (hne : q ≠ n) (h : Lft S.shown q n S.nx b m) {g : Nat → By} (hg : ∀ p ∈ S.shown, g p.2 = (S.th p.2).shown) (hx : g S.nx = x) (hm : ∃ i, x = d.take i) (hb : b = true → x = d) : Cutv S.files (fls m g) n q d := by
  have e0 : S.files = fls S.shown g := by
    show fls S.shown (fun k => (S.th k).shown) = _
    exact fls_congr (fun p hp => (hg p hp).symm)
  have hu := hw.sup
  have hn2 : ¬ n = q := fun e => hne e.symm
  cases h with
  | all => exact .all e0.symm
  | less =>
    refine .less ⟨?_, ?_, ?_⟩
    · rw [e0, fnd_fls, fnd_fls, get_del hu, if_neg hn2]
    · rw [fnd_fls, get_del hu, if_pos rfl]; rfl
    · rw [e0, flt_del n q q _ _ (.inr rfl)]
  | plus =>
    obtain ⟨i, rfl⟩ := hm
    refine .plus i ⟨?_, ?_, ?_⟩
    · rw [e0, fnd_fls, fnd_fls, get_put (hu.del q), if_neg hn2, get_del hu, if_neg hn2]
    · rw [fnd_fls, get_put (hu.del q), if_pos rfl, ← hx]; rfl
    · rw [e0, flt_put n q q _ _ _ (.inr rfl), flt_del n q q _ _ (.inr rfl)]
  | new =>
    have hxd := hb rfl
    subst hxd
    refine .new ⟨?_, ?_, ?_⟩
    · rw [fnd_fls, get_del (((hu.del q).put q _).put n _), if_neg hn2, get_put ((hu.del q).put q _), if_pos rfl, ← hx]; rfl
    · rw [fnd_fls, get_del (((hu.del q).put q _).put n _), if_pos rfl]; rfl
    · rw [e0, flt_del n q q _ _ (.inr rfl), flt_put n q n _ _ _ (.inl rfl), flt_put n q q _ _ _ (.inr rfl), flt_del n q q _ _ (.inr rfl)]
theorem crashTh_id (ps : List Int) (i : Nat) (l : Nm) (th : Nat → Th) (hl : l.ids.Nodup) (p : By × Nat) (hp : p ∈ l) : ∃ x, crashTh ps i l th p.2 = (th p.2).crash x := by
  induction l generalizing i th with
  | nil => cases hp
  | cons y r ih =>
    have hl' := List.nodup_cons.1 (by simpa [Nm.ids] using hl : (y.2 :: Nm.ids r).Nodup)
    rcases List.mem_cons.1 hp with rfl | hp
    · exact ⟨_, crashTh_cons ps i p r th hl'.1⟩
    · obtain ⟨x, hx⟩ := ih (i + 1) (upd th y.2 ((th y.2).crash (ps.getD (i + 1) 0))) hl'.2 hp
      refine ⟨x, ?_⟩
      show crashTh ps (i + 1) r (upd th y.2 _) p.2 = _
      rw [hx, upd_other _ _ (fun e => hl'.1 (by rw [← e]; exact List.mem_map.2 ⟨p, hp, rfl⟩))]
theorem still_crash {t : Th} (h : t.still) (x : Int) : (t.crash x).shown = t.shown := by
  show torn t.safe t.row _ = _
  rw [h.1, h.2]; rfl
/-- The new thing, as far as it came. -/
inductive Nth (d : By) : Bool → Option Th → Prop
  | none : Nth d false none
  | new : Nth d false (some Th.new)
  | wr : Nth d false (some (Th.new.change (.wr 0 d)))
  | done (b : Bool) : Nth d b (some ⟨d, [], d⟩)
theorem Nth.crash {d : By} {b : Bool} {t : Th} (h : Nth d b (some t)) (x : Int) : ∃ i, (t.crash x).shown = d.take i ∧ (b = true → (t.crash x).shown = d) := by
  cases h with
  | new => exact ⟨0, by simp [Th.crash, Th.new, torn], by simp⟩
  | wr =>
    refine ⟨rnd x (unitsOf (Th.new.change (.wr 0 d)).row), ?_, by simp⟩
    show torn [] [.wr 0 d] (rnd x (unitsOf (Th.new.change (.wr 0 d)).row)) = _
    have hle := rnd_le x (unitsOf (Th.new.change (.wr 0 d)).row)
    have hu : unitsOf (Th.new.change (.wr 0 d)).row = d.length := by simp [Th.change, Th.new, unitsOf, Ch.units]
    rw [hu] at hle ⊢
    generalize rnd x d.length = i at hle
    by_cases hi : i = 0
    · subst hi; simp [torn]
    · simp [torn, hi, Ch.apply, Ch.units, Nat.min_eq_left hle]
  | done b => exact ⟨d.length, by simp [Th.crash, torn], fun _ => by simp [Th.crash, torn]⟩
end Dsk
end

section
open Go.RowKit Dsk
set_option linter.unusedVariables false
set_option linter.unusedSimpArgs false
namespace Dsk
open _root_.Go.Proofs.YtemlbmamcbmnjaaGreatDoor.Dsk.Ds
section
variable {S D D' D1 D2 : Ds} {n q d : By} {c c0 : Bool} {e f : Int}
theorem clr_none (h : (S.find q).1 = 53) : S.clr q = (false, 0, S) := by unfold Ds.clr; rw [if_pos h]
theorem clr_some (h : (S.find q).1 ≠ 53) : S.clr q = (true, S.remove q) := by unfold Ds.clr; rw [if_neg h]
theorem beg_of (h : S.clr q = (c0, 0, D1)) (h2 : D1.create q = (0, D2)) : S.beg q = (true, 0, D2) := by unfold Ds.beg; rw [h]; simp [h2]
theorem beg_bad (h : S.clr q = (c0, 0, D1)) (h2 : D1.create q = (e, D2)) (he : e ≠ 0) : S.beg q = (c0, e, D2) := by unfold Ds.beg; rw [h]; simp [h2, he]
theorem beg_clr (h : S.clr q = (c0, e, D1)) (he : e ≠ 0) : S.beg q = (c0, e, D1) := by unfold Ds.beg; rw [h]; simp [he]
theorem lay_bad (h : S.beg q = (c0, e, D)) (he : e ≠ 0) : S.lay n q d = D.rest c0 e q := by unfold Ds.lay; rw [h]; simp [he]
theorem lay_ok (h : S.beg q = (c0, 0, D)) (h2 : D.fin n q d = (e, D')) : S.lay n q d = D'.rest c0 e q := by unfold Ds.lay; rw [h]; simp [h2]
theorem rest_no (h : forRoom e = false) : D.rest c e q = (e, D) := by unfold Ds.rest; simp [h]
theorem rest_c : D.rest false e q = (e, D) := by unfold Ds.rest; simp
theorem rest_yes (h : forRoom e = true) (h2 : D.tbk q = (0, D')) : D.rest true e q = (e, D') := by unfold Ds.rest; simp [h, h2]
theorem rest_off (h : forRoom e = true) (h2 : D.tbk q = (f, D')) (hf : f ≠ 0) : D.rest true e q = (f, D') := by unfold Ds.rest; simp [h, h2, hf]
theorem tbk_of (h : D.clr q = (c, 0, D1)) : D.tbk q = D1.syncNames := by unfold Ds.tbk; rw [h]; simp
theorem tbk_bad (h : D.clr q = (c, f, D1)) (hf : f ≠ 0) : D.tbk q = (f, D1) := by unfold Ds.tbk; rw [h]; simp [hf]
theorem fin_1 (h : S.append q d = (e, D)) (he : e ≠ 0) : S.fin n q d = (e, D) := by unfold Ds.fin; rw [h]; simp [he]
theorem fin_2 (h : S.append q d = (0, D)) (h2 : D.sync q = (e, D1)) (he : e ≠ 0) : S.fin n q d = (e, D1) := by unfold Ds.fin; rw [h]; simp [h2, he]
theorem fin_3 (h : S.append q d = (0, D)) (h2 : D.sync q = (0, D1)) (h3 : D1.rename q n = (e, D2)) (he : e ≠ 0) : S.fin n q d = (e, D2) := by unfold Ds.fin; rw [h]; simp [h2, h3, he]
theorem fin_4 (h : S.append q d = (0, D)) (h2 : D.sync q = (0, D1)) (h3 : D1.rename q n = (0, D2)) : S.fin n q d = D2.syncNames := by unfold Ds.fin; rw [h]; simp [h2, h3]
theorem isPut_nm (h : isPut n = true) : isNm n = true ∧ isNm (43 :: n) = true := by
  unfold isPut at h
  simp only [Bool.and_eq_true, decide_eq_true_eq] at h
  obtain ⟨⟨h1, h2⟩, _⟩ := h
  refine ⟨h1, ?_⟩
  unfold isNm at h1 ⊢
  simp only [Bool.and_eq_true, decide_eq_true_eq, List.length_cons, List.all_cons] at h1 ⊢
  exact ⟨⟨by omega, by omega⟩, by decide, h1.2⟩
theorem plus_ne (n : By) : (43 :: n : By) ≠ n := fun e => by have := congrArg List.length e; simp at this
end
/-- How a Put on a safe disk goes. -/
inductive PutR (S : Ds) (n q d : By) : Int → Ds → Prop
  | done (D : Ds) : D.on = true → AllSafe D → D.strokes = S.strokes + (if (S.shown.get q).isSome = true then 6 else 5) → Vw S.files D.files n q (some (n, d)) none → PutR S n q d 0 D
  | full (E : Int) (D : Ds) : (E = 55 ∨ E = 56) → D.on = true → AllSafe D → Vw S.files D.files n q (fnd S.files n) none → PutR S n q d E D
  | cut (D : Ds) : D.on = false → 1 ≤ S.off → (D.Wf → ∀ ps, Cutv S.files (D.crash ps).files n q d) → PutR S n q d 50 D
section
variable {S D : Ds} {n q d : By} {pre rest : List Nc} {t : Option Th} {m : Nat} {b : Bool}
/-- Cut off, then whatever crash. -/
theorem Fl.crash (h : Fl S D false (pre ++ rest) t m) (hpre : Pre S.shown q pre) (hs : AllSafe S) (hw : S.Wf) (hne : q ≠ n) (ht : Nth d b t) (hn : t = none → rest = []) (hr : rest = [] ∨ rest = [.mk q S.nx] ∨ (rest = [.mk q S.nx, .gv q n] ∧ b = true) ∨ rest = [.mk q S.nx, .tk q]) (hD : D.Wf) (ps : List Int) : Cutv S.files (D.crash ps).files n q d := by
  have hnl : D.crashNm ps = runN S.shown ((pre ++ rest).take (rnd (ps.getD 0 0) D.row.length)) := by
    unfold Ds.crashNm
    rw [h.row, h.safe]
  have hlf := hpre.left (n := n) (k := S.nx) hw.sup rest b hr (rnd (ps.getD 0 0) D.row.length)
  rw [← hnl] at hlf
  have hnd : (D.crashNm ps).ids.Nodup := (hD.crash ps).sids
  generalize hN : D.crashNm ps = nl at hnl hlf hnd
  have e0 : (D.crash ps).files = fls nl (fun k => (crashTh ps 0 nl D.th k).shown) := by
    show fls (D.crashNm ps) (fun k => (crashTh ps 0 (D.crashNm ps) D.th k).shown) = _
    rw [hN]
  have e1 : fls nl (fun k => (crashTh ps 0 nl D.th k).shown) = fls nl (fun k => if k = S.nx ∧ S.nx ∉ nl.ids then d else (crashTh ps 0 nl D.th k).shown) := fls_congr (fun p hp => by
    rw [if_neg (fun h => h.2 (by rw [← h.1]; exact List.mem_map.2 ⟨p, hp, rfl⟩))])
  rw [e0, e1]
  have hold : ∀ p ∈ S.shown, p.2 < S.nx := fun p hp => hw.slt (n := p.1) hp
  refine hlf.view hw hne (d := d) (x := if S.nx ∉ nl.ids then d else (crashTh ps 0 nl D.th S.nx).shown) (fun p hp => ?_) (by simp) ?_ ?_
  · have hp2 := hold p hp
    rw [if_neg (by omega)]
    by_cases hi : p.2 ∈ nl.ids
    · obtain ⟨y, hy, e⟩ := List.mem_map.1 hi
      obtain ⟨x, hx⟩ := crashTh_id ps 0 nl D.th hnd y hy
      rw [← e, hx, e, h.th p.2 hp2]
      exact still_crash (hs.th p hp) x
    · rw [crashTh_not _ _ _ _ _ hi, h.th p.2 hp2]
  all_goals
    by_cases hi : S.nx ∈ nl.ids
    · rw [if_neg (not_not_intro hi)]
      obtain ⟨y, hy, e⟩ := List.mem_map.1 hi
      obtain ⟨x, hx⟩ := crashTh_id ps 0 nl D.th hnd y hy
      cases t with
      | none =>
        exfalso
        rw [hn rfl, List.append_nil] at hnl
        rcases hpre.take (rnd (ps.getD 0 0) D.row.length) with e2 | e2
        · rw [hnl, e2] at hy; have := hold y hy; omega
        · rw [hnl, e2] at hy; have := hold y (Nm.mem_del.1 hy).1; omega
      | some u =>
        obtain ⟨i, h1, h2⟩ := ht.crash x
        rw [← e, hx, e, h.new.2]
        first | exact ⟨i, h1⟩ | exact h2
    · rw [if_pos hi]
      first | exact ⟨d.length, by simp⟩ | exact fun _ => rfl
/-- All but the draft, safe. -/
theorem Fl.view (h : Fl S D true (pre ++ rest) t m) (hrun : runN S.shown (pre ++ rest) = S.shown.del q) (hw : S.Wf) (hne : q ≠ n) (D' : Ds) (h1 : D'.shown = D.shown) (h2 : D'.th = D.th) : Vw S.files D'.files n q (fnd S.files n) none := by
  have e : D'.files = fls (S.shown.del q) (fun k => (S.th k).shown) := by
    show fls D'.shown (fun k => (D'.th k).shown) = _
    rw [h1, h2, h.shown, hrun]
    exact fls_congr (fun p hp => by rw [h.th p.2 (hw.slt (n := p.1) (Nm.mem_del.1 hp).1)])
  have hn2 : ¬ n = q := fun e => hne e.symm
  have e0 : S.files = fls S.shown (fun k => (S.th k).shown) := rfl
  refine ⟨?_, ?_, ?_⟩
  · rw [e, e0, fnd_fls, fnd_fls, get_del hw.sup, if_neg hn2]
  · rw [e, fnd_fls, get_del hw.sup, if_pos rfl]; rfl
  · rw [e, e0, flt_del n q q _ _ (.inr rfl)]
end
theorem forRoom_50 : forRoom 50 = false := by decide
set_option maxHeartbeats 1600000 in
theorem put_does {S : Ds} {n d : By} (hs : AllSafe S) (hw : S.Wf) (hon : S.on = true) (hp : isPut n = true) : PutR S n (43 :: n) d (S.put n d).1 (S.put n d).2 := by
  have e0 : S.put n d = S.lay n (43 :: n) d := by unfold Ds.put; rw [if_pos hp, if_pos hon]
  rw [e0]
  obtain ⟨nmn, nmq⟩ := isPut_nm hp
  have hne := plus_ne n
  generalize (43 :: n : By) = q at *
  have hu := hw.sup
  have hF := Fl.start hs hon
  -- what is taken away first
  have hfind := hF.findq nmq
  have key : (∃ D, S.lay n q d = (50, D) ∧ Fl S D false ([.tk q] ++ []) none 1 ∧ Pre S.shown q [.tk q]) ∨ ∃ c0 D1 pre m, S.clr q = (c0, 0, D1) ∧ Fl S D1 true pre none m ∧ Pre S.shown q pre ∧ (c0 = false → pre = []) ∧ m + 5 = (if (S.shown.get q).isSome = true then 6 else 5) := by
    cases hg : S.shown.get q with
    | none =>
      rw [show runN S.shown [] = S.shown from rfl, hg] at hfind
      exact .inr ⟨false, S, [], 0, clr_none (by rw [hfind]), hF, .inl ⟨rfl, hg⟩, fun _ => rfl, by simp⟩
    | some k =>
      rw [show runN S.shown [] = S.shown from rfl, hg] at hfind
      have er : S.remove q = (S.ans 0, S.tick.addName (.tk q)) := by unfold Ds.remove; rw [if_neg (by rw [hfind]; simp)]
      have hc := clr_some (S := S) (q := q) (by rw [hfind]; simp)
      rw [er] at hc
      have h1 := hF.tick.addName (.tk q)
      by_cases g : S.goesOff = true
      · have ea : S.ans 0 = 50 := by unfold Ds.ans; rw [if_pos g]
        rw [ea] at hc
        rw [g] at h1
        refine .inl ⟨_, ?_, h1, .inr rfl⟩
        rw [lay_bad (beg_clr hc (by decide)) (by decide), rest_no forRoom_50]
      · have g' : S.goesOff = false := by simpa using g
        have ea : S.ans 0 = 0 := by unfold Ds.ans; rw [if_neg g]
        rw [ea] at hc
        rw [g'] at h1
        exact .inr ⟨true, _, [.tk q], 1, hc, h1, .inr rfl, (fun h => by cases h), by simp⟩
  rcases key with ⟨D, e, h1, hpre⟩ | ⟨c0, D1, pre, m, hclr, h1, hpre, hc0, hm⟩
  · rw [e]
    exact .cut D h1.on (h1.pos rfl) (fun hD ps => h1.crash hpre hs hw hne .none (fun _ => rfl) (.inl rfl) hD ps)
  -- the draft is made
  have hf1 : D1.find q = (53, 0) := by rw [h1.findq nmq, hpre.run, get_del hu, if_pos rfl]
  have ec : D1.create q = if D1.refusedCreate = 0 then (D1.ans 0, ({ D1.tick with th := upd D1.th D1.nx Th.new, nx := D1.nx + 1 } : Ds).addName (.mk q D1.nx)) else (D1.ans D1.refusedCreate, D1.tick) := by
    unfold Ds.create
    rw [if_neg (by rw [hf1]; decide), if_neg (by rw [hf1]; simp)]
  have hrc : D1.refusedCreate = 0 ∨ D1.refusedCreate = 55 ∨ D1.refusedCreate = 56 := by
    unfold Ds.refusedCreate
    split
    · exact .inr (.inr rfl)
    · split
      · exact .inr (.inl rfl)
      · exact .inl rfl
  have h1e : Fl S D1 true (pre ++ []) none m := by rw [List.append_nil]; exact h1
  by_cases r0 : D1.refusedCreate = 0
  · rw [if_pos r0] at ec
    have h2 := (h1.tick).make q
    rw [show (D1.tick).nx = D1.nx from rfl, show (D1.tick).th = D1.th from rfl] at h2
    generalize (({ D1.tick with th := upd D1.th D1.nx Th.new, nx := D1.nx + 1 } : Ds).addName (.mk q D1.nx)) = D2 at ec h2
    by_cases g : D1.goesOff = true
    · have ea : D1.ans 0 = 50 := by unfold Ds.ans; rw [if_pos g]
      rw [ea] at ec
      rw [g] at h2
      rw [lay_bad (beg_bad hclr ec (by decide)) (by decide), rest_no forRoom_50]
      exact .cut _ h2.on (h2.pos rfl) (fun hD ps => h2.crash hpre hs hw hne .new (fun h => by cases h) (.inr (.inl rfl)) hD ps)
    · have g' : D1.goesOff = false := by simpa using g
      have ea : D1.ans 0 = 0 := by unfold Ds.ans; rw [if_neg g]
      rw [ea] at ec
      rw [g'] at h2
      have hbeg := beg_of hclr ec
      clear ec hclr hf1 g ea
      -- its bytes come
      have hf2 : D2.find q = (0, S.nx) := by rw [h2.findq nmq, run_mk hpre, get_put_same (hu.del q)]
      have ht2 : D2.th S.nx = Th.new := h2.new.2
      have ea : D2.append q d = if D2.full (((0 : Nat) : Int) + d.length - 0) = true then (D2.ans 55, D2.tick) else (D2.ans 0, D2.tick.addByte S.nx (.wr 0 d)) := by
        unfold Ds.append Ds.write
        rw [if_neg (by rw [hf2]; simp), hf2]
        simp only [ht2]
        rfl
      by_cases fu : D2.full (((0 : Nat) : Int) + d.length - 0) = true
      · rw [if_pos fu] at ea
        have h3 := h2.tick
        by_cases g : D2.goesOff = true
        · rw [show D2.ans 55 = 50 by unfold Ds.ans; rw [if_pos g]] at ea
          rw [g] at h3
          rw [lay_ok hbeg (fin_1 ea (by decide)), rest_no forRoom_50]
          exact .cut _ h3.on (h3.pos rfl) (fun hD ps => h3.crash hpre hs hw hne .new (fun h => by cases h) (.inr (.inl rfl)) hD ps)
        · have g' : D2.goesOff = false := by simpa using g
          rw [show D2.ans 55 = 55 by unfold Ds.ans; rw [if_neg g]] at ea
          rw [g'] at h3
          rw [lay_ok hbeg (fin_1 ea (by decide))]
          generalize D2.tick = D3 at h3
          -- it is taken back
          have hf3 : D3.find q = (0, S.nx) := by rw [h3.findq nmq, run_mk hpre, get_put_same (hu.del q)]
          have er : D3.remove q = (D3.ans 0, D3.tick.addName (.tk q)) := by unfold Ds.remove; rw [if_neg (by rw [hf3]; simp)]
          have hc := clr_some (S := D3) (q := q) (by rw [hf3]; simp)
          rw [er] at hc
          have h4 := h3.tick.addName (.tk q)
          rw [List.append_assoc] at h4
          have hrun := run_tk (k := S.nx) hpre hu
          by_cases g3 : D3.goesOff = true
          · rw [show D3.ans 0 = 50 by unfold Ds.ans; rw [if_pos g3]] at hc
            rw [g3] at h4
            rw [rest_off (by decide) (tbk_bad hc (by decide)) (by decide)]
            exact .cut _ h4.on (h4.pos rfl) (fun hD ps => h4.crash hpre hs hw hne .new (fun h => by cases h) (.inr (.inr (.inr rfl))) hD ps)
          · have g3' : D3.goesOff = false := by simpa using g3
            rw [show D3.ans 0 = 0 by unfold Ds.ans; rw [if_neg g3]] at hc
            rw [g3'] at h4
            have htb := tbk_of hc
            generalize D3.tick.addName (.tk q) = D4 at h4 htb
            rw [h4.syncNames] at htb
            have h5 := h4.tick
            by_cases g4 : D4.goesOff = true
            · rw [if_pos g4] at htb
              rw [g4] at h5
              rw [rest_off (by decide) htb (by decide)]
              exact .cut _ h5.on (h5.pos rfl) (fun hD ps => h5.crash hpre hs hw hne .new (fun h => by cases h) (.inr (.inr (.inr rfl))) hD ps)
            · rw [if_neg g4] at htb
              rw [show D4.goesOff = false by simpa using g4] at h5
              rw [rest_yes (by decide) htb]
              exact .full _ _ (.inl rfl) h5.on (h4.sync hs hw (fun p hp => .inl (by rw [show pre ++ ([Nc.mk q S.nx] ++ [Nc.tk q]) = pre ++ [.mk q S.nx, .tk q] from rfl, hrun] at hp; exact (Nm.mem_del.1 hp).1))) (h4.view hrun hw hne _ rfl rfl)
      · rw [if_neg fu] at ea
        have h3 : Fl S (D2.tick.addByte S.nx (.wr 0 d)) (!D2.goesOff) (pre ++ [.mk q S.nx]) (some (Th.new.change (.wr 0 d))) (m + 1 + 1) := by
          have h9 := h2.tick.turn (Th.new.change (.wr 0 d))
          have e9 : D2.tick.addByte S.nx (.wr 0 d) = { D2.tick with th := upd D2.tick.th S.nx (Th.new.change (.wr 0 d)) } := by
            unfold Ds.addByte
            rw [show (D2.tick).th S.nx = Th.new from ht2]
          rw [e9]; exact h9
        generalize D2.tick.addByte S.nx (.wr 0 d) = D3 at ea h3
        by_cases g : D2.goesOff = true
        · rw [show D2.ans 0 = 50 by unfold Ds.ans; rw [if_pos g]] at ea
          rw [g] at h3
          rw [lay_ok hbeg (fin_1 ea (by decide)), rest_no forRoom_50]
          exact .cut _ h3.on (h3.pos rfl) (fun hD ps => h3.crash hpre hs hw hne .wr (fun h => by cases h) (.inr (.inl rfl)) hD ps)
        · rw [show D2.ans 0 = 0 by unfold Ds.ans; rw [if_neg g]] at ea
          rw [show D2.goesOff = false by simpa using g] at h3
          -- they are made safe
          have hf3 : D3.find q = (0, S.nx) := by rw [h3.findq nmq, run_mk hpre, get_put_same (hu.del q)]
          have ht3 : D3.th S.nx = Th.new.change (.wr 0 d) := h3.new.2
          have es : D3.sync q = if D3.goesOff = true then (50, D3.tick) else (0, { D3.tick with th := upd D3.th S.nx ⟨d, [], d⟩ }) := by
            unfold Ds.sync
            rw [if_neg (by rw [hf3]; simp), hf3]
            simp only [ht3]
            have : (Th.new.change (.wr 0 d)).sync = ⟨d, [], d⟩ := by simp [Th.sync, Th.change, Th.new, Ch.apply, Ch.units]
            rw [this]
          by_cases g3 : D3.goesOff = true
          · rw [if_pos g3] at es
            have h4 := h3.tick
            rw [g3] at h4
            rw [lay_ok hbeg (fin_2 ea es (by decide)), rest_no forRoom_50]
            exact .cut _ h4.on (h4.pos rfl) (fun hD ps => h4.crash hpre hs hw hne .wr (fun h => by cases h) (.inr (.inl rfl)) hD ps)
          · rw [if_neg g3] at es
            have h4 : Fl S { D3.tick with th := upd D3.th S.nx ⟨d, [], d⟩ } true (pre ++ [.mk q S.nx]) (some ⟨d, [], d⟩) (m + 1 + 1 + 1) := by
              have h9 := h3.tick.turn ⟨d, [], d⟩
              rw [show D3.goesOff = false by simpa using g3] at h9
              exact h9
            generalize ({ D3.tick with th := upd D3.th S.nx ⟨d, [], d⟩ } : Ds) = D4 at es h4
            -- the draft gets its name
            have hf4 : D4.find q = (0, S.nx) := by rw [h4.findq nmq, run_mk hpre, get_put_same (hu.del q)]
            have en : D4.rename q n = (D4.ans 0, D4.tick.addName (.gv q n)) := by
              unfold Ds.rename
              rw [if_pos h4.on, if_pos nmn, if_neg (by rw [hf4]; simp), if_neg hne]
            have h5 := h4.tick.addName (.gv q n)
            rw [List.append_assoc] at h5
            have hrun := run_gv (n := n) (k := S.nx) hpre hu
            by_cases g4 : D4.goesOff = true
            · rw [show D4.ans 0 = 50 by unfold Ds.ans; rw [if_pos g4]] at en
              rw [g4] at h5
              rw [lay_ok hbeg (fin_3 ea es en (by decide)), rest_no forRoom_50]
              exact .cut _ h5.on (h5.pos rfl) (fun hD ps => h5.crash hpre hs hw hne (.done true) (fun h => by cases h) (.inr (.inr (.inl ⟨rfl, rfl⟩))) hD ps)
            · rw [show D4.ans 0 = 0 by unfold Ds.ans; rw [if_neg g4]] at en
              rw [show D4.goesOff = false by simpa using g4] at h5
              have hfin := fin_4 ea es en
              generalize D4.tick.addName (.gv q n) = D5 at h5 hfin
              rw [h5.syncNames] at hfin
              have h6 := h5.tick
              by_cases g5 : D5.goesOff = true
              · rw [if_pos g5] at hfin
                rw [g5] at h6
                rw [lay_ok hbeg hfin, rest_no forRoom_50]
                exact .cut _ h6.on (h6.pos rfl) (fun hD ps => h6.crash hpre hs hw hne (.done true) (fun h => by cases h) (.inr (.inr (.inl ⟨rfl, rfl⟩))) hD ps)
              · rw [if_neg g5] at hfin
                rw [show D5.goesOff = false by simpa using g5] at h6
                rw [lay_ok hbeg hfin, rest_no (by decide)]
                have hall : AllSafe { D5.tick with safe := D5.shown, row := [] } := h5.sync hs hw (fun p hp => by
                  rw [show pre ++ ([Nc.mk q S.nx] ++ [Nc.gv q n]) = pre ++ [.mk q S.nx, .gv q n] from rfl, hrun] at hp
                  rcases (Lft.new (l := S.shown) (q := q) (n := n) (k := S.nx)).mem p hp with h | h
                  · exact .inl h
                  · exact .inr ⟨h, _, rfl, rfl, rfl⟩)
                refine .done _ h6.on hall (by have := h6.strokes; show D5.tick.strokes = _; rw [this]; omega) ?_
                have ef : ({ D5.tick with safe := D5.shown, row := [] } : Ds).files = fls ((((S.shown.del q).put q S.nx).put n S.nx).del q) (fun k => (D5.th k).shown) := by
                  show fls D5.shown (fun k => (D5.th k).shown) = _
                  rw [h5.shown, show pre ++ ([Nc.mk q S.nx] ++ [Nc.gv q n]) = pre ++ [.mk q S.nx, .gv q n] from rfl, hrun]
                have hv := (Lft.new (l := S.shown) (q := q) (n := n) (k := S.nx)).view (S := S) (d := d) (x := d) hw hne (g := fun k => (D5.th k).shown) (fun p hp => by rw [h5.th p.2 (hw.slt (n := p.1) hp)]) (by have := h5.new.2; show (D5.th S.nx).shown = d; rw [this]) ⟨d.length, by simp⟩ (fun _ => rfl)
                rw [← ef] at hv
                have hn2 : ¬ n = q := fun e => hne e.symm
                have hnm : fnd ({ D5.tick with safe := D5.shown, row := [] } : Ds).files n = some (n, d) := by
                  rw [ef, fnd_fls, get_del (((hu.del q).put q _).put n _), if_neg hn2, get_put ((hu.del q).put q _), if_pos rfl]
                  have := h5.new.2
                  simp [this]
                have hqn : fnd ({ D5.tick with safe := D5.shown, row := [] } : Ds).files q = none := by
                  rw [ef, fnd_fls, get_del (((hu.del q).put q _).put n _), if_pos rfl]; rfl
                refine ⟨hnm, hqn, ?_⟩
                cases hv with
                | all e => rw [e]
                | less h => exact h.rest
                | plus i h => exact h.rest
                | new h => exact h.rest
  · rw [if_neg r0] at ec
    have hfr : forRoom D1.refusedCreate = true := by rcases hrc with h | h | h; exact absurd h r0; rw [h]; decide; rw [h]; decide
    have h56 : D1.refusedCreate = 55 ∨ D1.refusedCreate = 56 := hrc.resolve_left r0
    have h2 := h1e.tick
    by_cases g : D1.goesOff = true
    · rw [show D1.ans D1.refusedCreate = 50 by unfold Ds.ans; rw [if_pos g]] at ec
      rw [g] at h2
      rw [lay_bad (beg_bad hclr ec (by decide)) (by decide), rest_no forRoom_50]
      exact .cut _ h2.on (h2.pos rfl) (fun hD ps => h2.crash hpre hs hw hne .none (fun _ => rfl) (.inl rfl) hD ps)
    · rw [show D1.ans D1.refusedCreate = D1.refusedCreate by unfold Ds.ans; rw [if_neg g]] at ec
      rw [show D1.goesOff = false by simpa using g] at h2
      rw [lay_bad (beg_bad hclr ec r0) r0]
      generalize D1.refusedCreate = E at hfr h56
      have hrun : runN S.shown (pre ++ []) = S.shown.del q := by rw [List.append_nil]; exact hpre.run
      generalize D1.tick = D2 at h2
      cases hc : c0 with
      | false =>
        rw [rest_c]
        have hpn := hc0 hc
        subst hpn
        have hall : AllSafe D2 := ⟨h2.row, by rw [h2.safe, h2.shown]; rfl, fun p hp => by
          rw [h2.shown] at hp
          rw [h2.th p.2 (hw.slt (n := p.1) hp)]
          exact hs.th p hp⟩
        exact .full _ _ h56 h2.on hall (h2.view hrun hw hne _ rfl rfl)
      | true =>
        have hf2 : D2.find q = (53, 0) := by rw [h2.findq nmq, hrun, get_del hu, if_pos rfl]
        have htb := tbk_of (clr_none (S := D2) (q := q) (by rw [hf2]))
        rw [h2.syncNames] at htb
        have h3 := h2.tick
        by_cases g2 : D2.goesOff = true
        · rw [if_pos g2] at htb
          rw [g2] at h3
          rw [rest_off hfr htb (by decide)]
          exact .cut _ h3.on (h3.pos rfl) (fun hD ps => h3.crash hpre hs hw hne .none (fun _ => rfl) (.inl rfl) hD ps)
        · rw [if_neg g2] at htb
          rw [show D2.goesOff = false by simpa using g2] at h3
          rw [rest_yes hfr htb]
          exact .full _ _ h56 h3.on (h2.sync hs hw (fun p hp => .inl (by rw [hrun] at hp; exact (Nm.mem_del.1 hp).1))) (h2.view hrun hw hne _ rfl rfl)
end Dsk
end

end Go.Proofs.YtemlbmamcbmnjaaGreatDoor
