/-
  Contract: table.With. (Written by tools/zn.py.)
-/
import Derived.Test.YtmhnjhnnaciokaaZm
namespace Go.Proofs.Ytmhnjhnnaciokaa
open Go.RowKit Go.Sort
set_option linter.unusedVariables false
set_option linter.unusedSimpArgs false

theorem wpList_load_guard {P : Program} {ops : Array Oper} {rest : List Oper} {o : Oper} {a : Act} {w : World} {Q : Exit → Act → World → Prop} (hg : Region.wanted o (yielded ops a.tmps) = true) (ty : TypeId) (x : Operand) (ho : o.op = .load ty x)
    (b off : Nat) (hx : a.eval x = .pointer (some ⟨b, off, none⟩)) (cs : List Value) (d : TypeDesc) (hc : w.rangeAt b off cs)
    (hu : P.underlying ty = some d) (hd : d.isRow = true) (hi : (P.info? ty).map (·.size) = some cs.length)
    (h : wpList P ops Q rest (a.put o.dst (.agg cs.toArray)) w) : wpList P ops Q (o :: rest) a w :=
  wpList_step fun K' hK' => by
    rw [hg]
    simp only [if_true]
    exact wp_load_mid ty x ho b off hx cs d hc hu hd hi (hK' _ _ h)
theorem fill65 (c : Int) (f h : Nat → UInt8) : Instr.fill (fun i => some (i * 65, 65)) ((Array.range (1 * 65)).map ((Value.agg zeroR).cells[· % (Value.agg zeroR).cells.size]!)) [(0, .agg (bys ((List.range 32).map f) ++ (bys ((List.range 32).map h) ++ [Value.int .i64 c])).toArray)] = some (bys ((List.range 32).map f) ++ (bys ((List.range 32).map h) ++ [Value.int .i64 c])).toArray := by kernel_rfl
theorem range32 {L : List UInt8} (h : L.length = 32) : (List.range 32).map (fun i => L.getD i 0) = L := by
  apply List.ext_getElem
  · simp [h]
  · intro i h1 h2
    simp [List.getElem?_eq_getElem h2]
theorem fillR (e : Res) : Instr.fill (fun i => some (i * 65, 65)) ((Array.range (1 * 65)).map ((Value.agg zeroR).cells[· % (Value.agg zeroR).cells.size]!)) [(0, .agg e.cells.toArray)] = some e.cells.toArray := by
  have := fill65 e.code (fun i => e.action.getD i 0) (fun i => e.root.getD i 0)
  rw [range32 e.ha, range32 e.hr] at this
  exact this
theorem wp_build1 {o : Oper} {a : Act} {w : World} {K : Act → World → Prop} {Q : Exit → Act → World → Prop} (x : Operand) (ho : o.op = .buildSlice 22 1 #[(0, x)]) (e : Res) (hx : a.eval x = .agg e.cells.toArray)
    (h : K (a.put o.dst (.slice (some ⟨w.heap.size, 0, none⟩) 1 1)) (w.alloc (.cells e.cells.toArray 26))) : o.wp Try.prog a w K Q := by
  obtain ⟨i0, hi, hz0, hz1, hz2⟩ := info_parts Try.infoRes
  refine wp_buildSlice 22 26 1 #[(0, x)] ho e.cells.toArray i0 (.agg zeroR) Try.underlying22 hi hz0 (by rw [hz1]; decide) (by rw [hz1]; decide) ?_ h
  rw [hz1]
  have : (#[(0, x)].map fun (i, x) => (i, a.eval x)).toList = [(0, .agg e.cells.toArray)] := by simp [hx]
  rw [this]
  exact fillR e
theorem Try.infoLists : (Try.prog.info? 22).map (fun i => (i.zero, i.size, i.bytes)) = some (some (.slice none 0 0), 1, 24) := by kernel_rfl
theorem fill3 (a1 : Option Addr) (n1 c1 : Nat) (a2 : Option Addr) (n2 c2 : Nat) (a3 : Option Addr) (n3 c3 : Nat) : Instr.fill (fun i => some (i * 1, 1)) ((Array.range (3 * 1)).map ((Value.slice none 0 0).cells[· % (Value.slice none 0 0).cells.size]!)) [(0, .slice a1 n1 c1), (1, .slice a2 n2 c2), (2, .slice a3 n3 c3)] = some #[.slice a1 n1 c1, .slice a2 n2 c2, .slice a3 n3 c3] := by kernel_rfl
theorem wp_build3 {o : Oper} {a : Act} {w : World} {K : Act → World → Prop} {Q : Exit → Act → World → Prop} (x y z : Operand) (ho : o.op = .buildSlice 39 3 #[(0, x), (1, y), (2, z)]) (a1 : Option Addr) (n1 c1 : Nat) (a2 : Option Addr) (n2 c2 : Nat) (a3 : Option Addr) (n3 c3 : Nat) (hx : a.eval x = .slice a1 n1 c1) (hy : a.eval y = .slice a2 n2 c2) (hz : a.eval z = .slice a3 n3 c3)
    (h : K (a.put o.dst (.slice (some ⟨w.heap.size, 0, none⟩) 3 3)) (w.alloc (.cells #[.slice a1 n1 c1, .slice a2 n2 c2, .slice a3 n3 c3] 22))) : o.wp Try.prog a w K Q := by
  obtain ⟨i0, hi, hz0, hz1, hz2⟩ := info_parts Try.infoLists
  refine wp_buildSlice 39 22 3 #[(0, x), (1, y), (2, z)] ho #[.slice a1 n1 c1, .slice a2 n2 c2, .slice a3 n3 c3] i0 (.slice none 0 0) Try.underlying39 hi hz0 (by rw [hz1]; decide) (by rw [hz1]; decide) ?_ h
  rw [hz1]
  have : (#[(0, x), (1, y), (2, z)].map fun (i, x) => (i, a.eval x)).toList = [(0, .slice a1 n1 c1), (1, .slice a2 n2 c2), (2, .slice a3 n3 c3)] := by simp [hx, hy, hz]
  rw [this]
  exact fill3 _ _ _ _ _ _ _ _ _
/-- results[k:]. -/
theorem cut_lo {w : World} {ao : Option Addr} {n cap : Nat} {L : List Res} (hL : Ress w ao L) (hn : L.length = n) (hw : Wao ao) (hnl : ao = none → cap = 0) (hc : n ≤ cap) (k : Nat) (hk : k ≤ n) :
    ∃ a2, (∀ W, (Instr.slice 22 (.slice ao n cap) (some (.int .i64 k)) none none).run Try.prog W = .ok (.slice a2 (n - k) (cap - k)) W) ∧ Ress w a2 (L.drop k) ∧ Wao a2 ∧ (a2 = none → cap - k = 0) := by
  have hrun : ∀ W, (Instr.slice 22 (.slice ao n cap) (some (.int .i64 k)) none none).run Try.prog W = .ok (.slice (if cap - k = 0 then ao else ao.map fun a => a.add (k * 65)) (n - k) (cap - k)) W := by
    intro W
    have hz : (sizeOf (Try.prog.elem 22)).run Try.prog W = .ok 65 W := by kernel_rfl
    have h := run_slice_l (P := Try.prog) W 22 ao n cap (by kernel_rfl) .i64 k (by omega) (by omega)
    rw [h, hz]
    rcases hw with rfl | ⟨a, rfl⟩
    · simp [sliced]
    · simp only [sliced, Result.andThen_ok, Int.toNat_natCast, Option.map_some]
      by_cases h0 : cap = k
      · simp [h0]
      · have : ¬ cap - k = 0 := by omega
        simp [h0, this]
  rcases hw with rfl | ⟨a, rfl⟩
  · refine ⟨none, fun W => by rw [hrun W]; simp, ?_, .inl rfl, fun _ => by have := hnl rfl; omega⟩
    have : L = [] := by
      by_cases h0 : L = []
      · exact h0
      · obtain ⟨_, _, e, _⟩ := hL.open h0
        cases e
    rw [this]; simpa using Ress.nil _ _
  · by_cases h0 : cap - k = 0
    · refine ⟨some a, fun W => by rw [hrun W, if_pos h0], ?_, .inr ⟨_, rfl⟩, by simp⟩
      rw [List.drop_of_length_le (by omega)]
      exact Ress.nil _ _
    · refine ⟨some (a.add (k * 65)), fun W => by rw [hrun W, if_neg h0, Option.map_some], ?_, .inr ⟨_, rfl⟩, by simp⟩
      by_cases hd : L = []
      · rw [hd]; simpa using Ress.nil _ _
      · obtain ⟨b, o, e, _, _⟩ := hL.open hd
        cases e
        rw [Addr.add_mid]
        exact hL.drop k

namespace Tb
/-- P8.5 -/
def step (L : List Res) (e : Res) : Nat := rank L e.action + (if has L e.action then 1 else 0)
def withR (L : List Res) (e : Res) : List Res := L.take (rank L e.action) ++ e :: L.drop (step L e)
def withE (L : List Res) (e : Res) : Int := if valid L = false ∨ noCode e = true then 80 else if has L e.action = false ∧ L.length = 32 then 97 else 0
def withL (L : List Res) (e : Res) : List Res := if withE L e = 0 then withR L e else []
theorem step_le {L : List Res} (h : rise L = true) (e : Res) : step L e ≤ L.length := by
  unfold step
  have h1 := rank_le L e.action
  split
  · rename_i hh
    rw [has_iff h] at hh
    simp only [Bool.and_eq_true, decide_eq_true_eq] at hh
    omega
  · omega
theorem valid_rise {L : List Res} (h : valid L = true) : rise L = true := by
  simp only [valid, Bool.and_eq_true] at h
  exact h.2
end Tb
/-- What With answers. -/
def ToldR (w w' : World) (r : Ending) (e : Int) (L : List Res) : Prop :=
  (∃ v, r = .returned (.tuple #[v, .int .i64 e]) ∧ OwnR w' w.heap.size v L) ∧ Kept [] w w'

set_option maxHeartbeats 3200000 in
set_option maxRecDepth 100000 in
theorem with_no (ao : Option Addr) (n cap : Nat) (L : List Res) (e : Res) (w : World) (hn : L.length = n) (hL : Ress w ao L) (hw : Wao ao) (hm : n ≤ 4611686018427387904) (hv : Tb.valid L = false ∨ Tb.noCode e = true) :
    Calls Try.prog 5 #[.slice ao n cap, .agg e.cells.toArray] w fun r w' => ToldR w w' r 80 [] := by
  obtain ⟨W0, hW0⟩ : ∃ W0, w.alloc (.cells e.cells.toArray 26) = W0 := ⟨_, rfl⟩
  have hk0 : Kept [] w W0 := by rw [← hW0]; exact (Kept.refl [] w).alloc _
  have hr0 : W0.rangeAt w.heap.size 0 e.cells := by rw [← hW0]; exact res_range (heap_new w _)
  have ha := valid_ok ao n cap L W0 hn (hL.kept hk0 (by simp)) hw hm
  have i1 : (Try.prog.info? 26).map (·.size) = some e.cells.length := by rw [e.len]; exact Try.infoResS
  have hc := hasNoCode_ok e
  have HK0 := hide hk0
  clear hL hw hk0
  cases hV : Tb.valid L with
  | false =>
    rw [hV] at ha
    clear hv hV hr0 i1 hc
    go_enter Try.func5, Try.ntmps5
    go_wp2_with (go_at_call 13; refine ha.mono ?_; rintro r w1 ⟨rfl, hk1⟩)
    go_ret2
    exact ⟨⟨_, rfl, OwnR.nil _ _⟩, HK0.out.trans hk1 (by simp)⟩
  | true =>
    rw [hV] at ha
    obtain hN : Tb.noCode e = true := by rcases hv with h | h; · rw [hV] at h; cases h
                                         · exact h
    rw [hN] at hc
    clear hv hV hN
    go_enter Try.func5, Try.ntmps5
    go_wp2_with (first
      | (go_at_call 13; refine ha.mono ?_; rintro r w1 ⟨rfl, hk1⟩; have HK1 := hide hk1; replace hr0 : w1.rangeAt w.heap.size 0 e.cells := (fun j v hv => hk1.cellOf (hr0 j v hv) (by simp)); clear hk1 ha)
      | refine wpList_load_guard (by rfl) 26 (.tmp 3) rfl w.heap.size 0 rfl e.cells _ hr0 Try.underlying26 rfl i1 ?_
      | (go_at_call 14; refine (hc _).mono ?_; rintro r w2 ⟨rfl, hw2⟩; have HK2 : Hid (Kept [] w1 w2) := (by show Kept _ _ _; rw [hw2]; exact (Kept.refl [] w1).alloc _); clear hw2))
    go_ret2
    exact ⟨⟨_, rfl, OwnR.nil _ _⟩, (HK0.out.trans HK1.out (by simp)).trans HK2.out (by simp)⟩

set_option maxHeartbeats 6400000 in
set_option maxRecDepth 100000 in
theorem with_yes (ao : Option Addr) (n cap : Nat) (L : List Res) (e : Res) (w : World) (hn : L.length = n) (hL : Ress w ao L) (hw : Wao ao) (hnl : ao = none → cap = 0) (hc : n ≤ cap) (hcm : cap ≤ 9223372036854775807) (hnm : n ≤ 4611686018427387904) (hV : Tb.valid L = true) (hN : Tb.noCode e = false) :
    Calls Try.prog 5 #[.slice ao n cap, .agg e.cells.toArray] w fun r w' => ToldR w w' r (Tb.withE L e) (Tb.withL L e) := by
  have h32 := Tb.valid_len hV
  have hrise := Tb.valid_rise hV
  have hkl := Tb.rank_le L e.action
  have hsl := Tb.step_le hrise e
  rw [hn] at h32 hkl hsl
  have HE : Hid (Tb.withE L e = if Tb.has L e.action = false ∧ n = 32 then 97 else 0) := by show _ = _; unfold Tb.withE; simp [hV, hN, hn]
  obtain ⟨W0, hW0⟩ : ∃ W0, w.alloc (.cells e.cells.toArray 26) = W0 := ⟨_, rfl⟩
  have hk0 : Kept [] w W0 := by rw [← hW0]; exact (Kept.refl [] w).alloc _
  have hr0 : W0.rangeAt w.heap.size 0 e.cells := by rw [← hW0]; exact res_range (heap_new w _)
  have ha := valid_ok ao n cap L W0 hn (hL.kept hk0 (by simp)) hw (by omega)
  rw [hV] at ha
  have i1 : (Try.prog.info? 26).map (·.size) = some e.cells.length := by rw [e.len]; exact Try.infoResS
  have i2 : (Try.prog.info? 24).map (·.size) = some (bys e.action).length := by rw [bys_length, e.ha]; kernel_rfl
  have hcode := hasNoCode_ok e
  rw [hN] at hcode
  have hpl : Hid (∀ w1, Kept [] w w1 → Calls Try.prog 15 #[.slice ao n cap, .agg (bys e.action).toArray] w1 fun r w' => r = .returned (.tuple #[.int .i64 (Tb.rank L e.action), .bool (Tb.has L e.action)]) ∧ Kept [] w1 w') := fun w1 h => place_ok ao n cap L e.action w1 hn (hL.kept h (by simp)) e.ha hrise (by omega)
  obtain ⟨a1, hr1c, hR1, hW1, hnl1⟩ := cut_lo hL hn hw hnl hc (Tb.rank L e.action) hkl
  have HS : Hid (Tb.step L e = Tb.rank L e.action + (if Tb.has L e.action then 1 else 0)) := by show _ = _; rfl
  have HLI : Hid (Tb.withR L e = L.take (Tb.rank L e.action) ++ e :: L.drop (Tb.step L e)) := by show _ = _; rfl
  have hcut : ∀ W, (Instr.slice 22 (.slice ao n cap) none (some (.int .i64 (Tb.rank L e.action))) none).run Try.prog W = .ok (.slice ao (Tb.rank L e.action) cap) W := fun W => Try.cutHi W ao n cap _ (by omega)
  generalize Tb.step L e = s at hsl HS HLI
  generalize hk : Tb.rank L e.action = k at *
  obtain ⟨F, hF⟩ : ∃ F, Tb.has L e.action = F := ⟨_, rfl⟩
  rw [hF] at hpl HE HS
  have HCAT : Hid (∀ (wr : World), Kept [] w wr → ∀ (a2 : Option Addr) (n2 c2 : Nat), n2 = n - s → (a2 = none → c2 = 0) → Wao a2 → Ress w a2 (L.drop s) → ∀ (v2 : World) (g1 g2 : Nat), Kept [] wr v2 → v2.rangeAt g1 0 e.cells → v2.heap[g2]? = some (.cells #[.slice ao k cap, .slice (some ⟨g1, 0, none⟩) 1 1, .slice a2 n2 c2] 22 (0, 0)) →
      Calls Try.prog 16 #[.slice (some ⟨g2, 0, none⟩) 3 3] v2 fun r w' => ∃ v, r = .returned v ∧ OwnR w' v2.heap.size v (L.take k ++ e :: L.drop s) ∧ Kept [] v2 w') := by
    intro wr hkr a2 n2 c2 hn2 hnl2 hw2 hR2 v2 g1 g2 hk2 hr2 hg2
    have hkw : Kept [] w v2 := hkr.trans hk2 (by simp)
    have htl : (L.take k).length = k := by rw [List.length_take]; omega
    have hdl : (L.drop s).length = n2 := by rw [List.length_drop]; omega
    have h := concat_ok g2 3 3 [⟨ao, cap, L.take k⟩, ⟨some ⟨g1, 0, none⟩, 1, [e]⟩, ⟨a2, c2, L.drop s⟩] v2 rfl (by
      intro i hi
      rw [Nat.zero_add, cell_of_row _ _ _ _ _ _ hg2]
      rcases i with _ | _ | _ | i
      · simp [Arg.v, htl]
      · simp [Arg.v]
      · simp [Arg.v, hdl]
      · omega) (by
      intro i hi
      rcases i with _ | _ | _ | i
      · exact ⟨(hL.take k).kept hkw (by simp), hw, hnl⟩
      · refine ⟨fun j hj => ⟨g1, 0, rfl, ?_⟩, .inr ⟨_, rfl⟩, by simp⟩
        have : j = 0 := by simp at hj; exact hj
        subst this
        exact hr2
      · exact ⟨hR2.kept hkw (by simp), hw2, hnl2⟩
      · omega) (by
      simp only [joined, List.flatMap_cons, List.flatMap_nil, List.length_append, htl, hdl, List.length_cons, List.length_nil]
      omega) (by omega)
    refine h.mono ?_
    rintro r w' ⟨v, rfl, hO, hk⟩
    exact ⟨v, rfl, by simpa [joined] using hO, hk⟩
  have HK0 := hide hk0
  have HR1 : Hid (Ress w a1 (L.drop k) ∧ Wao a1 ∧ (a1 = none → cap - k = 0)) := ⟨hR1, hW1, hnl1⟩
  have HLN := hide hn
  clear hL hw hk0 hV hN hrise hF hk hn hR1 hW1 hnl1
  have HWL : Hid (Tb.withL L e = if Tb.withE L e = 0 then Tb.withR L e else []) := by show _ = _; rfl
  cases F with
  | true =>
    have hs1 : s = k + 1 := by have := HS.out; simpa using this
    obtain ⟨a2, hr2c, hR2, hW2, hnl2⟩ := cut_lo HR1.out.1 (show (L.drop k).length = n - k by rw [List.length_drop, HLN.out]) HR1.out.2.1 HR1.out.2.2 (by omega) 1 (by omega)
    obtain ⟨N1, hN1⟩ : ∃ N1, n - k = N1 := ⟨_, rfl⟩
    obtain ⟨C1, hC1⟩ : ∃ C1, cap - k = C1 := ⟨_, rfl⟩
    rw [hN1, hC1] at hr2c
    simp only [hN1, hC1] at hr1c
    obtain ⟨n2, hn2⟩ : ∃ n2, N1 - 1 = n2 := ⟨_, rfl⟩
    obtain ⟨c2, hc2⟩ : ∃ c2, C1 - 1 = c2 := ⟨_, rfl⟩
    rw [hn2, hc2] at hr2c
    have HR2 : Hid (n2 = n - s ∧ (a2 = none → c2 = 0) ∧ Wao a2 ∧ Ress w a2 (L.drop s)) := ⟨by omega, fun h => by have := hnl2 h; omega, hW2, by rw [List.drop_drop] at hR2; rw [hs1]; exact hR2⟩
    clear hN1 hC1 hn2 hc2 hR2 hW2 hnl2 HR1
    have one : ∀ W, (Instr.slice 22 (.slice a1 N1 C1) (some (.int .i64 1)) none none).run Try.prog W = .ok (.slice a2 n2 c2) W := hr2c
    clear hr2c
    go_enter Try.func5, Try.ntmps5
    go_upto_region 9 with (first
        | (go_at_call 13; refine ha.mono ?_; rintro r w1 ⟨rfl, hk1⟩; have HK1 : Hid (Kept [] w w1) := HK0.out.trans hk1 (by simp); replace hr0 : w1.rangeAt w.heap.size 0 e.cells := (fun j v hv => hk1.cellOf (hr0 j v hv) (by simp)); clear hk1 ha)
        | refine wpList_load_guard (by rfl) 26 (.tmp 3) rfl w.heap.size 0 rfl e.cells _ hr0 Try.underlying26 rfl i1 ?_
        | (go_at_call 14; refine (hcode _).mono ?_; rintro r w2 ⟨rfl, hw2⟩; have hk2 : Kept [] w1 w2 := (by rw [hw2]; exact (Kept.refl [] w1).alloc _); have HK2 : Hid (Kept [] w w2) := HK1.out.trans hk2 (by simp); replace hr0 : w2.rangeAt w.heap.size 0 e.cells := (fun j v hv => hk2.cellOf (hr0 j v hv) (by simp)); have hra : w2.rangeAt w.heap.size 0 (bys e.action) := (fun j v hv => by obtain ⟨hj1, rfl⟩ := bys_get hv; exact hr0 j _ (Res.act (by rw [← e.ha]; exact hj1))); clear hw2 hk2 hcode)
        | refine wpList_load_mid rfl 24 (.tmp 18) rfl w.heap.size 0 rfl (bys e.action) _ hra Try.underlying24 rfl i2 ?_
        | (go_at_call 15; refine (hpl.out _ HK2.out).mono ?_; rintro r wr ⟨rfl, hk3⟩; have HK3 : Hid (Kept [] w wr) := HK2.out.trans hk3 (by simp); replace hr0 : wr.rangeAt w.heap.size 0 e.cells := (fun j v hv => hk3.cellOf (hr0 j v hv) (by simp)); clear hk3 hra))
    have hr1 := hr0
    clear hr0
    have HCAT2 : Hid (∀ (v2 : World) (g1 g2 : Nat), Kept [] wr v2 → v2.rangeAt g1 0 e.cells → v2.heap[g2]? = some (.cells #[.slice ao k cap, .slice (some ⟨g1, 0, none⟩) 1 1, .slice a2 n2 c2] 22 (0, 0)) → Calls Try.prog 16 #[.slice (some ⟨g2, 0, none⟩) 3 3] v2 fun r w' => ∃ v, r = .returned v ∧ OwnR w' v2.heap.size v (L.take k ++ e :: L.drop s) ∧ Kept [] v2 w') := HCAT.out wr HK3.out a2 n2 c2 HR2.out.1 HR2.out.2.1 HR2.out.2.2.1 HR2.out.2.2.2
    clear hr1c
    refine wp_region_held_drew (S := fun w' => Kept [] wr w') (by kernel_rfl) ((Kept.refl [] wr).drew) (fun h0 => ?_)
    generalize World.drew wr = v0 at h0 ⊢
    refine wpAnyH_take (i := 0) (v := .slice ao n cap) rfl (by kernel_rfl) (by kernel_rfl) (by kernel_rfl) (fun _ _ _ h => h) (Or.inl ⟨by rfl, fun w hSw => by go_simp⟩) h0 ?_
    try simp only [List.getElem_toArray, List.getElem_cons_zero, List.getElem_cons_succ, Act.put, List.setIfInBounds_toArray, List.set_cons_zero, List.set_cons_succ]
    refine wpAnyH_take (i := 1) (v := .int .i64 k) rfl (by kernel_rfl) (by kernel_rfl) (by kernel_rfl) (fun _ _ _ h => h) (Or.inl ⟨by rfl, fun w hSw => by go_simp⟩) h0 ?_
    try simp only [List.getElem_toArray, List.getElem_cons_zero, List.getElem_cons_succ, Act.put, List.setIfInBounds_toArray, List.set_cons_zero, List.set_cons_succ]
    refine wpAnyH_take (i := 2) (v := .slice ao k cap) rfl (by kernel_rfl) (by kernel_rfl) (by kernel_rfl) (fun _ _ _ h => h) (Or.inl ⟨by rfl, fun w hSw => by have c := hcut w; go_simp⟩) h0 ?_
    try simp only [List.getElem_toArray, List.getElem_cons_zero, List.getElem_cons_succ, Act.put, List.setIfInBounds_toArray, List.set_cons_zero, List.set_cons_succ]
    refine wpAnyH_take (i := 3) rfl (by kernel_rfl) (by kernel_rfl) (by kernel_rfl) (fun _ _ _ h => h) (yieldsIf_load_mid (by rfl) _ _ rfl _ _ rfl _ _ (fun w h j v hv => Kept.cellOf h (hr1 j v hv) (by simp)) Try.underlying26 rfl i1) h0 ?_
    try simp only [List.getElem_toArray, List.getElem_cons_zero, List.getElem_cons_succ, Act.put, List.setIfInBounds_toArray, List.set_cons_zero, List.set_cons_succ]
    refine wpAnyH_take (i := 5) (v := .slice a2 n2 c2) rfl (by kernel_rfl) (by kernel_rfl) (by kernel_rfl) (fun _ _ _ h => h) (Or.inl ⟨by rfl, fun w hSw => by go_simp⟩) h0 ?_
    try simp only [List.getElem_toArray, List.getElem_cons_zero, List.getElem_cons_succ, Act.put, List.setIfInBounds_toArray, List.set_cons_zero, List.set_cons_succ]
    refine wpAnyH_ready (rs := [4]) (by kernel_rfl) (by simp) (AllReadyH.cons (i := 4) rfl (fun K hK => ?_) AllReadyH.nil)
    rw [if_pos (by rfl)]
    refine wp_build1 (.tmp 35) rfl e rfl ?_
    have hn1 := heap_new v0 (.cells e.cells.toArray 26)
    refine hK.out _ _ (h0.alloc _) (fun h1 => ?_)
    clear hK K
    try simp only [List.getElem_toArray, List.getElem_cons_zero, List.getElem_cons_succ, Act.put, List.setIfInBounds_toArray, List.set_cons_zero, List.set_cons_succ]
    have hx1 : Kept [] v0 (v0.alloc (.cells e.cells.toArray 26)) := (Kept.refl [] v0).alloc _
    generalize v0.alloc (.cells e.cells.toArray 26) = v1 at h1 hn1 hx1 ⊢
    have hR1 := res_range hn1
    generalize v0.heap.size = g1 at hn1 hR1 ⊢
    clear hn1
    refine wpAnyH_ready (rs := [6]) (by kernel_rfl) (by simp) (AllReadyH.cons (i := 6) rfl (fun K hK => ?_) AllReadyH.nil)
    rw [if_pos (by rfl)]
    refine wp_build3 (.tmp 34) (.tmp 36) (.tmp 37) rfl ao k cap (some ⟨g1, 0, none⟩) 1 1 a2 n2 c2 rfl rfl rfl ?_
    have hn2 := heap_new v1 (.cells #[.slice ao k cap, .slice (some ⟨g1, 0, none⟩) 1 1, .slice a2 n2 c2] 22)
    refine hK.out _ _ (h1.alloc _) (fun h2 => ?_)
    clear hK K
    try simp only [List.getElem_toArray, List.getElem_cons_zero, List.getElem_cons_succ, Act.put, List.setIfInBounds_toArray, List.set_cons_zero, List.set_cons_succ]
    have hx2 : Kept [] v1 (v1.alloc (.cells #[.slice ao k cap, .slice (some ⟨g1, 0, none⟩) 1 1, .slice a2 n2 c2] 22)) := (Kept.refl [] v1).alloc _
    generalize v1.alloc (.cells #[.slice ao k cap, .slice (some ⟨g1, 0, none⟩) 1 1, .slice a2 n2 c2] 22) = v2 at h2 hn2 hx2 ⊢
    generalize v1.heap.size = g2 at hn2 ⊢
    have hcat := HCAT2.out v2 g1 g2 h2 (fun j v hv => hx2.cellOf (hR1 j v hv) (by simp)) hn2
    refine wpAnyH_ready (rs := [7]) (by kernel_rfl) (by simp) (AllReadyH.cons (i := 7) rfl (fun K hK => ?_) AllReadyH.nil)
    rw [if_pos (by rfl)]
    go_simp
    refine hcat.mono ?_
    rintro r v3 ⟨v, rfl, ho3, hk3⟩
    refine hK.out _ _ (h2.trans hk3 (by simp)) (fun h3 => ?_)
    clear hK K
    try simp only [List.getElem_toArray, List.getElem_cons_zero, List.getElem_cons_succ, Act.put, List.setIfInBounds_toArray, List.set_cons_zero, List.set_cons_succ]
    refine wpAnyH_take (i := 8) (v := v) rfl (by kernel_rfl) (by kernel_rfl) (by kernel_rfl) (fun _ _ _ h => h) (Or.inl ⟨by rfl, fun w hSw => by go_simp⟩) h3 ?_
    try simp only [List.getElem_toArray, List.getElem_cons_zero, List.getElem_cons_succ, Act.put, List.setIfInBounds_toArray, List.set_cons_zero, List.set_cons_succ]
    refine wpAnyH_take (i := 9) (v := .int .i64 0) rfl (by kernel_rfl) (by kernel_rfl) (by kernel_rfl) (fun _ _ _ h => h) (Or.inl ⟨by rfl, fun w hSw => by go_simp⟩) h3 ?_
    try simp only [List.getElem_toArray, List.getElem_cons_zero, List.getElem_cons_succ, Act.put, List.setIfInBounds_toArray, List.set_cons_zero, List.set_cons_succ]
    refine wpAnyH_done (by kernel_rfl) ?_ _
    go_wp2
    go_ret2
    have hsz : w.heap.size ≤ v2.heap.size := Nat.le_trans HK3.out.size h2.size
    refine ⟨⟨v, by rw [HE.out]; simp, ?_⟩, HK3.out.trans h3 (by simp)⟩
    rw [HWL.out, HE.out, HLI.out]
    simpa using ho3.base hsz
  | false =>
    have hs1 : s = k := by have := HS.out; simpa using this
    obtain ⟨a2, rfl⟩ : ∃ a2, a2 = a1 := ⟨_, rfl⟩
    obtain ⟨n2, hn2⟩ : ∃ n2, n - k = n2 := ⟨_, rfl⟩
    obtain ⟨c2, hc2⟩ : ∃ c2, cap - k = c2 := ⟨_, rfl⟩
    simp only [hn2, hc2] at hr1c
    have HR2 : Hid (n2 = n - s ∧ (a2 = none → c2 = 0) ∧ Wao a2 ∧ Ress w a2 (L.drop s)) := ⟨by omega, fun h => by have := HR1.out.2.2 h; omega, HR1.out.2.1, by rw [hs1]; exact HR1.out.1⟩
    clear hn2 hc2 HR1
    by_cases h32' : n = 32
    · have n32 : ((n : Int) == 32) = true := by simp; omega
      have H32 := hide h32'
      clear h32'
      go_enter Try.func5, Try.ntmps5
      go_wp2_with (first
        | (go_at_call 13; refine ha.mono ?_; rintro r w1 ⟨rfl, hk1⟩; have HK1 : Hid (Kept [] w w1) := HK0.out.trans hk1 (by simp); replace hr0 : w1.rangeAt w.heap.size 0 e.cells := (fun j v hv => hk1.cellOf (hr0 j v hv) (by simp)); clear hk1 ha)
        | refine wpList_load_guard (by rfl) 26 (.tmp 3) rfl w.heap.size 0 rfl e.cells _ hr0 Try.underlying26 rfl i1 ?_
        | (go_at_call 14; refine (hcode _).mono ?_; rintro r w2 ⟨rfl, hw2⟩; have hk2 : Kept [] w1 w2 := (by rw [hw2]; exact (Kept.refl [] w1).alloc _); have HK2 : Hid (Kept [] w w2) := HK1.out.trans hk2 (by simp); replace hr0 : w2.rangeAt w.heap.size 0 e.cells := (fun j v hv => hk2.cellOf (hr0 j v hv) (by simp)); have hra : w2.rangeAt w.heap.size 0 (bys e.action) := (fun j v hv => by obtain ⟨hj1, rfl⟩ := bys_get hv; exact hr0 j _ (Res.act (by rw [← e.ha]; exact hj1))); clear hw2 hk2 hcode)
        | refine wpList_load_mid rfl 24 (.tmp 18) rfl w.heap.size 0 rfl (bys e.action) _ hra Try.underlying24 rfl i2 ?_
        | (go_at_call 15; refine (hpl.out _ HK2.out).mono ?_; rintro r wr ⟨rfl, hk3⟩; have HK3 : Hid (Kept [] w wr) := HK2.out.trans hk3 (by simp); replace hr0 : wr.rangeAt w.heap.size 0 e.cells := (fun j v hv => hk3.cellOf (hr0 j v hv) (by simp)); clear hk3 hra))
      go_ret2
      refine ⟨⟨.slice none 0 0, by rw [HE.out]; simp [H32.out], ?_⟩, HK3.out⟩
      rw [HWL.out, HE.out]
      simpa [H32.out] using OwnR.nil _ _
    · have n32 : ((n : Int) == 32) = false := by simp; omega
      go_enter Try.func5, Try.ntmps5
      go_upto_region 9 with (first
        | (go_at_call 13; refine ha.mono ?_; rintro r w1 ⟨rfl, hk1⟩; have HK1 : Hid (Kept [] w w1) := HK0.out.trans hk1 (by simp); replace hr0 : w1.rangeAt w.heap.size 0 e.cells := (fun j v hv => hk1.cellOf (hr0 j v hv) (by simp)); clear hk1 ha)
        | refine wpList_load_guard (by rfl) 26 (.tmp 3) rfl w.heap.size 0 rfl e.cells _ hr0 Try.underlying26 rfl i1 ?_
        | (go_at_call 14; refine (hcode _).mono ?_; rintro r w2 ⟨rfl, hw2⟩; have hk2 : Kept [] w1 w2 := (by rw [hw2]; exact (Kept.refl [] w1).alloc _); have HK2 : Hid (Kept [] w w2) := HK1.out.trans hk2 (by simp); replace hr0 : w2.rangeAt w.heap.size 0 e.cells := (fun j v hv => hk2.cellOf (hr0 j v hv) (by simp)); have hra : w2.rangeAt w.heap.size 0 (bys e.action) := (fun j v hv => by obtain ⟨hj1, rfl⟩ := bys_get hv; exact hr0 j _ (Res.act (by rw [← e.ha]; exact hj1))); clear hw2 hk2 hcode)
        | refine wpList_load_mid rfl 24 (.tmp 18) rfl w.heap.size 0 rfl (bys e.action) _ hra Try.underlying24 rfl i2 ?_
        | (go_at_call 15; refine (hpl.out _ HK2.out).mono ?_; rintro r wr ⟨rfl, hk3⟩; have HK3 : Hid (Kept [] w wr) := HK2.out.trans hk3 (by simp); replace hr0 : wr.rangeAt w.heap.size 0 e.cells := (fun j v hv => hk3.cellOf (hr0 j v hv) (by simp)); clear hk3 hra))
      have hr1 := hr0
      clear hr0
      have HCAT2 : Hid (∀ (v2 : World) (g1 g2 : Nat), Kept [] wr v2 → v2.rangeAt g1 0 e.cells → v2.heap[g2]? = some (.cells #[.slice ao k cap, .slice (some ⟨g1, 0, none⟩) 1 1, .slice a2 n2 c2] 22 (0, 0)) → Calls Try.prog 16 #[.slice (some ⟨g2, 0, none⟩) 3 3] v2 fun r w' => ∃ v, r = .returned v ∧ OwnR w' v2.heap.size v (L.take k ++ e :: L.drop s) ∧ Kept [] v2 w') := HCAT.out wr HK3.out a2 n2 c2 HR2.out.1 HR2.out.2.1 HR2.out.2.2.1 HR2.out.2.2.2
      clear hr1c n32
      refine wp_region_held_drew (S := fun w' => Kept [] wr w') (by kernel_rfl) ((Kept.refl [] wr).drew) (fun h0 => ?_)
      generalize World.drew wr = v0 at h0 ⊢
      refine wpAnyH_take (i := 0) (v := .slice ao n cap) rfl (by kernel_rfl) (by kernel_rfl) (by kernel_rfl) (fun _ _ _ h => h) (Or.inl ⟨by rfl, fun w hSw => by go_simp⟩) h0 ?_
      try simp only [List.getElem_toArray, List.getElem_cons_zero, List.getElem_cons_succ, Act.put, List.setIfInBounds_toArray, List.set_cons_zero, List.set_cons_succ]
      refine wpAnyH_take (i := 1) (v := .int .i64 k) rfl (by kernel_rfl) (by kernel_rfl) (by kernel_rfl) (fun _ _ _ h => h) (Or.inl ⟨by rfl, fun w hSw => by go_simp⟩) h0 ?_
      try simp only [List.getElem_toArray, List.getElem_cons_zero, List.getElem_cons_succ, Act.put, List.setIfInBounds_toArray, List.set_cons_zero, List.set_cons_succ]
      refine wpAnyH_take (i := 2) (v := .slice ao k cap) rfl (by kernel_rfl) (by kernel_rfl) (by kernel_rfl) (fun _ _ _ h => h) (Or.inl ⟨by rfl, fun w hSw => by have c := hcut w; go_simp⟩) h0 ?_
      try simp only [List.getElem_toArray, List.getElem_cons_zero, List.getElem_cons_succ, Act.put, List.setIfInBounds_toArray, List.set_cons_zero, List.set_cons_succ]
      refine wpAnyH_take (i := 3) rfl (by kernel_rfl) (by kernel_rfl) (by kernel_rfl) (fun _ _ _ h => h) (yieldsIf_load_mid (by rfl) _ _ rfl _ _ rfl _ _ (fun w h j v hv => Kept.cellOf h (hr1 j v hv) (by simp)) Try.underlying26 rfl i1) h0 ?_
      try simp only [List.getElem_toArray, List.getElem_cons_zero, List.getElem_cons_succ, Act.put, List.setIfInBounds_toArray, List.set_cons_zero, List.set_cons_succ]
      refine wpAnyH_take (i := 5) (v := .slice a2 n2 c2) rfl (by kernel_rfl) (by kernel_rfl) (by kernel_rfl) (fun _ _ _ h => h) (Or.inl ⟨by rfl, fun w hSw => by go_simp⟩) h0 ?_
      try simp only [List.getElem_toArray, List.getElem_cons_zero, List.getElem_cons_succ, Act.put, List.setIfInBounds_toArray, List.set_cons_zero, List.set_cons_succ]
      refine wpAnyH_ready (rs := [4]) (by kernel_rfl) (by simp) (AllReadyH.cons (i := 4) rfl (fun K hK => ?_) AllReadyH.nil)
      rw [if_pos (by rfl)]
      refine wp_build1 (.tmp 35) rfl e rfl ?_
      have hn1 := heap_new v0 (.cells e.cells.toArray 26)
      refine hK.out _ _ (h0.alloc _) (fun h1 => ?_)
      clear hK K
      try simp only [List.getElem_toArray, List.getElem_cons_zero, List.getElem_cons_succ, Act.put, List.setIfInBounds_toArray, List.set_cons_zero, List.set_cons_succ]
      have hx1 : Kept [] v0 (v0.alloc (.cells e.cells.toArray 26)) := (Kept.refl [] v0).alloc _
      generalize v0.alloc (.cells e.cells.toArray 26) = v1 at h1 hn1 hx1 ⊢
      have hR1 := res_range hn1
      generalize v0.heap.size = g1 at hn1 hR1 ⊢
      clear hn1
      refine wpAnyH_ready (rs := [6]) (by kernel_rfl) (by simp) (AllReadyH.cons (i := 6) rfl (fun K hK => ?_) AllReadyH.nil)
      rw [if_pos (by rfl)]
      refine wp_build3 (.tmp 34) (.tmp 36) (.tmp 37) rfl ao k cap (some ⟨g1, 0, none⟩) 1 1 a2 n2 c2 rfl rfl rfl ?_
      have hn2 := heap_new v1 (.cells #[.slice ao k cap, .slice (some ⟨g1, 0, none⟩) 1 1, .slice a2 n2 c2] 22)
      refine hK.out _ _ (h1.alloc _) (fun h2 => ?_)
      clear hK K
      try simp only [List.getElem_toArray, List.getElem_cons_zero, List.getElem_cons_succ, Act.put, List.setIfInBounds_toArray, List.set_cons_zero, List.set_cons_succ]
      have hx2 : Kept [] v1 (v1.alloc (.cells #[.slice ao k cap, .slice (some ⟨g1, 0, none⟩) 1 1, .slice a2 n2 c2] 22)) := (Kept.refl [] v1).alloc _
      generalize v1.alloc (.cells #[.slice ao k cap, .slice (some ⟨g1, 0, none⟩) 1 1, .slice a2 n2 c2] 22) = v2 at h2 hn2 hx2 ⊢
      generalize v1.heap.size = g2 at hn2 ⊢
      have hcat := HCAT2.out v2 g1 g2 h2 (fun j v hv => hx2.cellOf (hR1 j v hv) (by simp)) hn2
      refine wpAnyH_ready (rs := [7]) (by kernel_rfl) (by simp) (AllReadyH.cons (i := 7) rfl (fun K hK => ?_) AllReadyH.nil)
      rw [if_pos (by rfl)]
      go_simp
      refine hcat.mono ?_
      rintro r v3 ⟨v, rfl, ho3, hk3⟩
      refine hK.out _ _ (h2.trans hk3 (by simp)) (fun h3 => ?_)
      clear hK K
      try simp only [List.getElem_toArray, List.getElem_cons_zero, List.getElem_cons_succ, Act.put, List.setIfInBounds_toArray, List.set_cons_zero, List.set_cons_succ]
      refine wpAnyH_take (i := 8) (v := v) rfl (by kernel_rfl) (by kernel_rfl) (by kernel_rfl) (fun _ _ _ h => h) (Or.inl ⟨by rfl, fun w hSw => by go_simp⟩) h3 ?_
      try simp only [List.getElem_toArray, List.getElem_cons_zero, List.getElem_cons_succ, Act.put, List.setIfInBounds_toArray, List.set_cons_zero, List.set_cons_succ]
      refine wpAnyH_take (i := 9) (v := .int .i64 0) rfl (by kernel_rfl) (by kernel_rfl) (by kernel_rfl) (fun _ _ _ h => h) (Or.inl ⟨by rfl, fun w hSw => by go_simp⟩) h3 ?_
      try simp only [List.getElem_toArray, List.getElem_cons_zero, List.getElem_cons_succ, Act.put, List.setIfInBounds_toArray, List.set_cons_zero, List.set_cons_succ]
      refine wpAnyH_done (by kernel_rfl) ?_ _
      go_wp2
      go_ret2
      have hsz : w.heap.size ≤ v2.heap.size := Nat.le_trans HK3.out.size h2.size
      refine ⟨⟨v, by rw [HE.out]; simp [h32'], ?_⟩, HK3.out.trans h3 (by simp)⟩
      rw [HWL.out, HE.out, HLI.out]
      simpa [h32'] using ho3.base hsz
theorem with_ok (ao : Option Addr) (n cap : Nat) (L : List Res) (e : Res) (w : World) (hn : L.length = n) (hL : Ress w ao L) (hw : Wao ao) (hnl : ao = none → cap = 0) (hc : n ≤ cap) (hcm : cap ≤ 9223372036854775807) (hnm : n ≤ 4611686018427387904) :
    Calls Try.prog 5 #[.slice ao n cap, .agg e.cells.toArray] w fun r w' => ToldR w w' r (Tb.withE L e) (Tb.withL L e) := by
  by_cases hv : Tb.valid L = false ∨ Tb.noCode e = true
  · have e1 : Tb.withE L e = 80 := by unfold Tb.withE; rw [if_pos hv]
    have e2 : Tb.withL L e = [] := by unfold Tb.withL; rw [e1]; rfl
    rw [e1, e2]
    exact with_no ao n cap L e w hn hL hw hnm hv
  · have h1 : Tb.valid L = true := by
      cases h : Tb.valid L with
      | true => rfl
      | false => exact absurd (.inl h) hv
    have h2 : Tb.noCode e = false := by
      cases h : Tb.noCode e with
      | false => rfl
      | true => exact absurd (.inr h) hv
    exact with_yes ao n cap L e w hn hL hw hnl hc hcm hnm h1 h2
end Go.Proofs.Ytmhnjhnnaciokaa
