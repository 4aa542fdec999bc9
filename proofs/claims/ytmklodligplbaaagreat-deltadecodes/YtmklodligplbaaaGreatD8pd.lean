import Derived.Test.YtmklodligplbaaaGreatD8md
import Derived.Test.YtmklodligplbaaaGreatD8nd
import Derived.Test.YtmklodligplbaaaGreatD8od
import Derived.Test.YtmklodligplbaaaGreatMemd
import Derived.Maps.AppendAt
namespace Go.Proofs.YtmklodligplbaaaGreat
section
open Go.RowKit
open Dlt
set_option linter.unusedVariables false
set_option linter.unusedSimpArgs false
set_option maxHeartbeats 1600000 in
set_option maxRecDepth 100000 in
theorem readSig_long (ao : Option Addr) (n cap : Nat) (w : World) (hn : 131072 < n) :
  Calls Tryz.prog 23 #[.slice ao n cap] w fun e w' => e = gaveUp8 ∧ Kept [] w w' := by
 have hz := Tryz.zeroSig
 have hK : Kept [] w (w.alloc (.cells zeroS 29)) := (Kept.refl [] w).alloc _
 have hop := open_long ao n cap 83 (w.alloc (.cells zeroS 29)) hn
 clear hn
 go_enter Tryz.func23, Tryz.ntmps23
 go_wp2_with (go_at_call 48; refine hop.mono ?_; rintro r w2 ⟨rfl, hk2⟩; have H2 := hide hk2; clear hop hk2)
 exact ⟨rfl, rfl, hK.trans H2.out (by simp)⟩
set_option maxHeartbeats 1600000 in
set_option maxRecDepth 100000 in
theorem readSig_mark (ao : Option Addr) (n cap : Nat) (xs : List UInt8) (w : World) (hn : xs.length = n) (hm : n ≤ 131072) (hs : Sl w ao xs) (h0 : ao = none → xs = [] ∧ cap = 0) (hmk : mk xs ≠ 83) :
  Calls Tryz.prog 23 #[.slice ao n cap] w fun e w' => e = gaveUp8 ∧ Kept [] w w' := by
 have hz := Tryz.zeroSig
 have hK : Kept [] w (w.alloc (.cells zeroS 29)) := (Kept.refl [] w).alloc _
 have hop := open_no ao n cap 83 xs (w.alloc (.cells zeroS 29)) hn hm (hs.kept hK (by simp)) h0 hmk
 clear hn hs h0 hmk
 go_enter Tryz.func23, Tryz.ntmps23
 go_wp2_with (go_at_call 48; refine hop.mono ?_; rintro r w2 ⟨rfl, hk2⟩; have H2 := hide hk2; clear hop hk2)
 exact ⟨rfl, rfl, hK.trans H2.out (by simp)⟩
structure InB8 (w : World) (ao : Option Addr) (n cap : Nat) (xs : List UInt8) : Prop where
 len : xs.length = n
 le : n ≤ cap
 max : n ≤ 9223372036854775807
 sl : Sl w ao xs
 nil : ao = none → xs = [] ∧ cap = 0
theorem InB8.kept {w w' : World} {ao : Option Addr} {n cap : Nat} {xs : List UInt8} (h : InB8 w ao n cap xs) (hk : Kept [] w w') : InB8 w' ao n cap xs := ⟨h.len, h.le, h.max, h.sl.kept hk (by simp), h.nil⟩
theorem readSig_none (ao : Option Addr) (n cap : Nat) (xs : List UInt8) (w : World) (h : InB8 w ao n cap xs) (hd : decS xs = none) :
  Calls Tryz.prog 23 #[.slice ao n cap] w fun e w' => e = gaveUp8 ∧ Kept [] w w' := by
 unfold decS at hd
 rw [h.len] at hd
 by_cases h1 : 131072 < n
 ·exact readSig_long ao n cap w h1
 ·rw [if_neg h1] at hd
  have hm : n ≤ 131072 := by omega
  by_cases h2 : mk xs ≠ 83
  ·exact readSig_mark ao n cap xs w h.len hm h.sl h.nil h2
  ·rw [if_neg h2] at hd
   have h2 : mk xs = 83 := Classical.not_not.1 h2
   cases h3 : isW (nW xs) with
   | false => exact readSig_width ao n cap xs w h.len h.le hm h.sl h.nil h2 h3
   | true =>
    rw [h3, if_neg (by simp)] at hd
    cases h4 : isZ (nZ xs) with
    | false => exact readSig_size ao n cap xs w h.len h.le hm h.sl h.nil h2 h3 h4
    | true =>
     rw [h4, if_neg (by simp)] at hd
     cases h5 : Dlt.within (nL xs) 0 131072 with
     | false => exact readSig_length ao n cap xs w h.len h.le hm h.sl h.nil h2 h3 h4 h5
     | true =>
      rw [h5, if_neg (by simp)] at hd
      by_cases h6 : 2048 < nL xs / nZ xs
      ·exact readSig_many ao n cap xs w h.len h.le hm h.sl h.nil h2 h3 h4 h5 h6
      ·rw [if_neg h6] at hd
       cases h7 : endOk xs (rdWs xs (nW xs) (sB xs) (cntS xs)).2 with
       | false => exact readSig_end ao n cap xs w h.len h.le hm h.sl h.nil h2 h3 h4 h5 h6 h7
       | true => rw [h7, if_neg (by simp)] at hd; cases hd
theorem readSig_some (ao : Option Addr) (n cap : Nat) (xs : List UInt8) (w : World) (h : InB8 w ao n cap xs) (s : Sig) (hd : decS xs = some s) :
  Calls Tryz.prog 23 #[.slice ao n cap] w fun e w' => (∃ v, e = .returned (.agg (s.cells v).toArray) ∧ OwnW w' w.heap.size v s.blocks) ∧ Kept [] w w' := by
 unfold decS at hd
 rw [h.len] at hd
 split at hd; · cases hd
 rename_i h1
 split at hd; · cases hd
 rename_i h2
 split at hd; · cases hd
 rename_i h3
 split at hd; · cases hd
 rename_i h4
 split at hd; · cases hd
 rename_i h5
 split at hd; · cases hd
 rename_i h6
 split at hd; · cases hd
 rename_i h7
 injection hd with hd
 subst hd
 rw [Bool.not_eq_false] at h3 h4 h5 h7
 exact readSig_yes ao n cap xs w h.len h.le (by omega) h.sl h.nil (Classical.not_not.1 h2) h3 h4 h5 h6 h7
set_option maxRecDepth 100000 in
theorem dcatch_panicking (p q : Nat) (n : Int) (u : TypeId) (pv : Value) (older : List PanicEntry) (w : World) (hp : w.heap[p]? = some (.cells zeroS 29 (0, 0))) (hc2 : w.cell? ⟨q, 0, none⟩ = some (.int .i64 n)) (hz2 : w.frozen? ⟨q, 0, none⟩ = false) (hpq : p ≠ q) :
  CallsD Tryz.prog 22 #[.pointer (some ⟨p, 0, none⟩), .pointer (some ⟨q, 0, none⟩)] (.panicking ({ v := .iface u pv, recovered := false } :: older)) w fun e u' w' =>
   e = .returned (.tuple #[]) ∧ u' = .panicking ({ v := .iface u pv, recovered := true } :: older) ∧ w' = (w.setCells p 0 zeroS.toList).setCell ⟨q, 0, none⟩ (.int .i64 180) := by
 have hb := Tryz.builtSigZ w
 have hth : w.there p 0 zeroS.size := there_row hp 0 36 (by decide)
 have hi0 : (Tryz.prog.info? 29).map (·.size) = some zeroS.size := Tryz.infoSigA sig0 (.slice none 0 0)
 have ha0 : zeroS.all (·.oneCell') = true := sig_one sig0 _ rfl
 have hk : Kept [p] w (w.setCells p 0 zeroS.toList) := kept_setCells _ _ _ _ _ (Kept.refl _ _) (by simp)
 have h3 : (w.setCells p 0 zeroS.toList).cell? ⟨q, 0, none⟩ = some (.int .i64 n) := hk.cellOf hc2 (by simp; omega)
 have h4 : (w.setCells p 0 zeroS.toList).frozen? ⟨q, 0, none⟩ = false := (hk.frozen (World.block_lt_of_cell? _ _ hc2) (by simp; omega)).trans hz2
 obtain ⟨w5, hw5⟩ : ∃ w5, w.setCells p 0 zeroS.toList = w5 := ⟨_, rfl⟩
 rw [hw5] at h3 h4 hk
 refine callsD_of_wpS Tryz.func22 rfl fun c₀ cs hu => ?_
 apply wpS_seq
 apply wpS_region
 simp [wpOpsS, go_sem, recoverD, hu, Tryz.ntmps22, Exit.thenS]
 refine wpS_cond (t := true) (by simp [Act.eval, Array.replicate]) ?_
 simp only [if_true]
 have e0 : (#[Value.pointer (some ⟨p, 0, none⟩), Value.pointer (some ⟨q, 0, none⟩)] ++ ((Array.replicate 3 undef).setIfInBounds 0 (Value.iface u pv)).setIfInBounds 1 (Value.bool true)) = #[Value.pointer (some ⟨p, 0, none⟩), Value.pointer (some ⟨q, 0, none⟩), Value.iface u pv, Value.bool true, undef] := rfl
 rw [e0]
 refine wpS_of_wp ?_
 go_wp2_with (first
  | refine wpList_buildRun8 rfl 29 #[] rfl #[] rfl _ hb ?_
  | (refine wpList_store_mid rfl 29 (.tmp 0) (.tmp 4) rfl p 0 zeroS rfl rfl hth hi0 ha0 ?_; rw [hw5]))
 simp [bodyPostS, results, Tryz.results22, hw5]
set_option maxRecDepth 100000 in
theorem dcatch_idle (p q : Nat) (w : World) :
  CallsD Tryz.prog 22 #[.pointer (some ⟨p, 0, none⟩), .pointer (some ⟨q, 0, none⟩)] .returning w fun e u' w' => e = .returned (.tuple #[]) ∧ u' = .returning ∧ w' = w := by
 refine callsD_of_wpS Tryz.func22 rfl fun c₀ cs hu => ?_
 apply wpS_seq
 apply wpS_region
 simp [wpOpsS, go_sem, recoverD, hu, Tryz.ntmps22, Exit.thenS]
 refine wpS_cond (t := false) (by simp [Act.eval, Array.replicate]) ?_
 simp only [Bool.false_eq_true, if_false]
 refine wpS_of_wp (wp_skip ?_)
 cases c₀
 simp_all [bodyPostS, results, Tryz.results22]
theorem OwnW.ge {w : World} {base : Nat} {v : Value} {L : List Wk} (h : OwnW w base v L) {g : Nat} (hg : v.ownBlock = some g) : base ≤ g := by
 obtain ⟨ao5, c5, e5, _, _, hb5, _⟩ := h.wks
 cases ao5 with
 | none => rw [e5] at hg; simp [Value.ownBlock] at hg
 | some a5 => obtain ⟨g5, rfl, h5, _, h6⟩ := hb5 a5 rfl; rw [hg] at h6; cases h6; exact h5
theorem dec_results {w : World} {A B : Nat} {cs : Array Value} {n : Int} {tmps : Array Value} (hA : w.heap[A]? = some (.cells cs 29 (0, 0))) (hi : (Tryz.prog.info? 29).map (·.size) = some cs.size) (hB : w.cell? ⟨B, 0, none⟩ = some (.int .i64 n)) (h2 : tmps[2]?.getD undef = .pointer (some ⟨A, 0, none⟩)) (h3 : tmps[3]?.getD undef = .pointer (some ⟨B, 0, none⟩)) :
  (results Tryz.f8 tmps).run Tryz.prog w = .ok (.tuple #[.agg cs, .int .i64 n]) w := by
 have hl := run_loadVar_row (P := Tryz.prog) w A 29 29 cs (0, 0) _ hA Tryz.underlying29 rfl hi
 have hl2 : (loadVar 30 ⟨B, 0, none⟩).run Tryz.prog w = .ok (.int .i64 n) w := by simp [go_sem, hB]
 simp [results, Tryz.results8, h2, h3, asAddr, hl, hl2]
set_option maxHeartbeats 1600000 in
set_option maxRecDepth 100000 in
theorem decode_ok (ao : Option Addr) (n cap : Nat) (xs : List UInt8) (w : World) (h : InB8 w ao n cap xs) :
  Calls Tryz.prog 8 #[.slice ao n cap] w fun e w' => TellS w w' e (okE (decS xs).isSome) ((decS xs).getD sig0) ∧ Kept [] w w' := by
 have hmf : ∀ (fn : Fn) (first cap : Array Value) (w : World), (Instr.makeFunc fn first cap).run Tryz.prog w = .ok (.func fn first cap) w := fun _ _ _ _ => rfl
 have hz := Tryz.zeroSig
 have H := hide h
 clear h
 go_enter_defers Tryz.func8, Tryz.ntmps8
 go_upto_region 2 with (fail)
 obtain ⟨W0, hW0⟩ : ∃ W0, (w.alloc (.cells zeroS 29)).alloc (.cells #[.int .i64 0] 30) = W0 := ⟨_, rfl⟩
 rw [hW0]
 have kb : Kept [] w W0 := by rw [← hW0]; exact ((Kept.refl [] w).alloc _).alloc _
 have sz : W0.heap.size = w.heap.size + 2 := by rw [← hW0]; simp
 have rA : W0.heap[w.heap.size]? = some (.cells zeroS 29 (0, 0)) := by rw [← hW0, Below.heap_alloc _ _ _ (by simp)]; exact heap_new _ _
 have cB : W0.cell? ⟨w.heap.size + 1, 0, none⟩ = some (.int .i64 0) := by rw [← hW0]; simp [go_sem]
 have fB : W0.frozen? ⟨w.heap.size + 1, 0, none⟩ = false := by rw [← hW0]; simp [go_sem]
 clear hW0
 rcases hp : decS xs with _ | s
 ·have hro := readSig_none ao n cap xs W0 (H.out.kept kb) hp
  go_wp2_with (go_at_call 23; refine hro.mono ?_; rintro r w2 ⟨rfl, hk2⟩; have HK2 := hide hk2; clear hro hk2)
  have k2 := HK2.out
  have lA : w.heap.size < W0.heap.size := by omega
  have lB : w.heap.size + 1 < W0.heap.size := by omega
  have rA2 := (k2.block _ lA (by simp)).trans rA
  refine leaves_cons (f := 22) (args := #[.pointer (some ⟨w.heap.size, 0, none⟩), .pointer (some ⟨w.heap.size + 1, 0, none⟩)]) (by simp) (by simp [go_sem]) ?_
  refine (dcatch_panicking w.heap.size (w.heap.size + 1) 0 _ _ [] w2 rA2 (k2.cellOf cB (by simp)) ((k2.frozen lB (by simp)).trans fB) (by omega)).mono ?_
  rintro e u' w'' ⟨rfl, rfl, rfl⟩
  have hsr : w2.setCells w.heap.size 0 zeroS.toList = w2.setRow w.heap.size zeroS := by
   rw [setCells_row zeroS.toList w2 w.heap.size 0 zeroS.toList 29 (by simpa using rA2) (by simp)]
   congr 1
  rw [hsr]
  have kA := kept_row w2 w.heap.size zeroS
  have rA3 := setRow_heap w2 w.heap.size _ zeroS _ _ rA2
  have cB3 := kA.cellOf (k2.cellOf cB (by simp)) (by simp)
  obtain ⟨W3, hW3⟩ : ∃ W3, (w2.setRow w.heap.size zeroS).setCell ⟨w.heap.size + 1, 0, none⟩ (.int .i64 180) = W3 := ⟨_, rfl⟩
  have kB : Kept [w.heap.size + 1] (w2.setRow w.heap.size zeroS) W3 := by rw [← hW3]; exact (Kept.refl _ _).setCell (by simp) _
  have eA : W3.heap[w.heap.size]? = some (.cells zeroS 29 (0, 0)) := (kB.block _ (Array.getElem?_eq_some_iff.1 rA3).1 (by simp)).trans rA3
  have eB : W3.cell? ⟨w.heap.size + 1, 0, none⟩ = some (.int .i64 180) := by rw [← hW3]; exact World.cell?_setCell_same _ _ _ cB3
  have hK : Kept [] w W3 := ((kb.trans k2 (by simp)).trans kA (by simp)).trans kB (by simp)
  rw [hW3]
  have hres := fun (tm : Array Value) h2 h3 => dec_results (tmps := tm) eA (Tryz.infoSigA sig0 (.slice none 0 0)) eB h2 h3
  simp [Leaves, settle, hres]
  rw [hp]
  exact ⟨⟨.slice none 0 0, rfl, World.ownsRow_nil _ _ _ _⟩, hK⟩
 ·have hro := readSig_some ao n cap xs W0 (H.out.kept kb) s hp
  have hzs := fun v => (show zeroS.size = (s.cells v).toArray.size by rw [sig_size]; exact sig_size _ _)
  go_wp2_with (first
   | (go_at_call 23; refine hro.mono ?_; rintro r w2 ⟨⟨v, rfl, ho2⟩, hk2⟩; obtain ⟨vo, vc, rfl, hv2⟩ := own_shape ho2; have HK2 := hide (And.intro hk2 ho2); have rA2 := (hk2.block _ (show w.heap.size < W0.heap.size by omega) (by simp)).trans rA; have kA := kept_row w2 w.heap.size (s.cells (.slice vo s.blocks.length vc)).toArray; have cB2 := kA.cellOf (hk2.cellOf cB (by simp)) (by simp); have fB2 := (kA.frozen (Nat.lt_of_lt_of_le (show w.heap.size + 1 < W0.heap.size by omega) hk2.size) (by simp)).trans ((hk2.frozen (show w.heap.size + 1 < W0.heap.size by omega) (by simp)).trans fB); clear hro hk2 ho2)
   | refine wpList_store_rowTo rfl 29 (.tmp 2) (.tmp 6) rfl rfl w.heap.size (s.cells (.slice vo s.blocks.length vc)).toArray rfl rfl 29 zeroS rA2 (Tryz.infoSigA s (.slice vo s.blocks.length vc)) (hzs (.slice vo s.blocks.length vc)) (sig_one s (.slice vo s.blocks.length vc) rfl) ?_)
  refine leaves_cons (f := 22) (args := #[.pointer (some ⟨w.heap.size, 0, none⟩), .pointer (some ⟨w.heap.size + 1, 0, none⟩)]) (by simp) (by simp [go_sem]) ?_
  refine (dcatch_idle w.heap.size (w.heap.size + 1) _).mono ?_
  rintro e u' w'' ⟨rfl, rfl, rfl⟩
  have rA3 := setRow_heap w2 w.heap.size _ (s.cells (.slice vo s.blocks.length vc)).toArray _ _ rA2
  obtain ⟨W3, hW3⟩ : ∃ W3, (w2.setRow w.heap.size (s.cells (.slice vo s.blocks.length vc)).toArray).setCell ⟨w.heap.size + 1, 0, none⟩ (.int .i64 0) = W3 := ⟨_, rfl⟩
  have kB : Kept [w.heap.size + 1] (w2.setRow w.heap.size (s.cells (.slice vo s.blocks.length vc)).toArray) W3 := by rw [← hW3]; exact (Kept.refl _ _).setCell (by simp) _
  have eA : W3.heap[w.heap.size]? = some (.cells (s.cells (.slice vo s.blocks.length vc)).toArray 29 (0, 0)) := (kB.block _ (Array.getElem?_eq_some_iff.1 rA3).1 (by simp)).trans rA3
  have eB : W3.cell? ⟨w.heap.size + 1, 0, none⟩ = some (.int .i64 0) := by rw [← hW3]; exact World.cell?_setCell_same _ _ _ cB2
  have hK : Kept [] w W3 := ((kb.trans HK2.out.1 (by simp)).trans kA (by simp)).trans kB (by simp)
  have hO : OwnW W3 w.heap.size (.slice vo s.blocks.length vc) s.blocks := by
   have h1 := (HK2.out.2.kept kA (fun g hg => by have := HK2.out.2.ge hg; simp; omega)).kept kB (fun g hg => by have := HK2.out.2.ge hg; simp; omega)
   exact own_base h1 (by omega)
  rw [hW3]
  have hres := fun (tm : Array Value) h2 h3 => dec_results (tmps := tm) eA (Tryz.infoSigA s (.slice vo s.blocks.length vc)) eB h2 h3
  simp [Leaves, settle, hres]
  rw [hp]
  exact ⟨⟨(.slice vo s.blocks.length vc), rfl, hO⟩, hK⟩
end

section
open Go.RowKit
open Dlt
set_option linter.unusedVariables false
set_option linter.unusedSimpArgs false
namespace Dlt
def idxs (L : List Wk) (x : Int) (k : Nat) : List Nat := (List.range k).filter fun i => (L.getD i wk0).sum == x
theorem idxs_succ (L : List Wk) (x : Int) (k : Nat) : idxs L x (k + 1) = if (L.getD k wk0).sum = x then idxs L x k ++ [k] else idxs L x k := by
 unfold idxs
 rw [List.range_succ, List.filter_append]
 by_cases h : (L.getD k wk0).sum = x
 ·rw [if_pos h]
  congr 1
  simp only [List.filter_cons, List.filter_nil]
  rw [if_pos (by simpa using h)]
 ·rw [if_neg h]
  simp only [List.filter_cons, List.filter_nil]
  rw [if_neg (by simpa using h), List.append_nil]
theorem idxs_len (L : List Wk) (x : Int) (k : Nat) : (idxs L x k).length ≤ k := by
 unfold idxs
 exact Nat.le_trans (List.length_filter_le _ _) (by simp)
theorem idxs_mem {L : List Wk} {x : Int} {k i : Nat} (h : i ∈ idxs L x k) : i < k ∧ (L.getD i wk0).sum = x := by
 unfold idxs at h
 rw [List.mem_filter, List.mem_range] at h
 exact ⟨h.1, by simpa using h.2⟩
def leastI (L : List Wk) (x : Int) (id : List UInt8) : Option Nat := (List.range L.length).find? fun i => (L.getD i wk0).sum == x && (L.getD i wk0).id == id
theorem leastI_idxs (L : List Wk) (x : Int) (id : List UInt8) : leastI L x id = (idxs L x L.length).find? fun i => (L.getD i wk0).id == id := by
 unfold leastI idxs
 rw [List.find?_filter]
 congr 1
 funext a
 rw [Bool.eq_iff_iff]
 simp
def ivs (l : List Nat) : List Value := l.map fun n : Nat => .int .i64 (n : Int)
theorem ivs_snoc (l : List Nat) (k : Nat) : ivs (l ++ [k]) = ivs l ++ [.int .i64 k] := by simp [ivs]
end Dlt
theorem Tryz.infoInt8 : (Tryz.prog.info? 3).map (fun i => (i.zero, i.size, i.bytes)) = some (some (.int .i64 0), 1, 8) := by kernel_rfl
theorem Tryz.zeroInts8 (w : World) : (zeroValue 144).run Tryz.prog w = .ok (.slice none 0 0) w := by kernel_rfl
theorem own_same {w w' : World} {base : Nat} {e : TypeId} {s : Nat} {v : Value} {n : Nat} {xs : List Value} (h : w.ownsRow base e s v n xs) (hs : ∀ g, v.ownBlock = some g → w'.heap[g]? = w.heap[g]?) : w'.ownsRow base e s v n xs := by
 refine ⟨h.1, ?_⟩
 rcases h.2 with h1 | ⟨g, cap, cur, rfl, h2, h3, h4⟩
 ·exact .inl h1
 ·exact .inr ⟨g, cap, cur, rfl, h2, (hs g rfl).trans h3, h4⟩
theorem own_blk {w : World} {base : Nat} {e : TypeId} {s : Nat} {v : Value} {n : Nat} {xs : List Value} (h : w.ownsRow base e s v n xs) {g : Nat} (hg : v.ownBlock = some g) : base ≤ g ∧ g < w.heap.size ∧ ∃ cur, w.heap[g]? = some (.cells cur e (0, 0)) := by
 rcases h.2 with ⟨rfl, _⟩ | ⟨g', cap, cur, rfl, h2, h3, _⟩
 ·cases hg
 ·simp only [Value.ownBlock, Option.some.injEq] at hg
  subst hg
  exact ⟨h2, (Array.getElem?_eq_some_iff.1 h3).1, cur, h3⟩
structure Fm (w : World) (base M : Nat) (L : List Wk) (k : Nat) (K : List Int) (V : List Value) : Prop where
 map : Ik w M K V
 rows : ∀ (j : Nat) x v, K[j]? = some x → V[j]? = some v → w.ownsRow base 3 1 v (idxs L x k).length (ivs (idxs L x k))
 full : ∀ x, idxs L x k ≠ [] → x ∈ K
 apart : ∀ (i j : Nat) u v g, i ≠ j → V[i]? = some u → V[j]? = some v → u.ownBlock = some g → v.ownBlock ≠ some g
theorem Fm.kept {w w' : World} {base M : Nat} {L : List Wk} {k : Nat} {K : List Int} {V : List Value} (h : Fm w base M L k K V) (hk : Kept [] w w') : Fm w' base M L k K V :=
 ⟨h.map.kept hk (by simp), fun j x v h1 h2 => own_same (h.rows j x v h1 h2) (fun g hg => hk.block g (own_blk (h.rows j x v h1 h2) hg).2.1 (by simp)), h.full, h.apart⟩
theorem Fm.start (w : World) (base M : Nat) (L : List Wk) (h : Ik w M [] []) : Fm w base M L 0 [] [] := ⟨h, by simp, by simp [idxs], by simp⟩
theorem Fm.look {w : World} {base M : Nat} {L : List Wk} {k : Nat} {K : List Int} {V : List Value} (h : Fm w base M L k K V) (x : Int) :
  ∃ v, (∀ W, Kept [] w W → (Instr.lookup 103 (.map (some M)) (.int .i64 x) false).run Tryz.prog W = .ok v W) ∧ w.ownsRow base 3 1 v (idxs L x k).length (ivs (idxs L x k)) ∧ ((x ∉ K ∧ v = .slice none 0 0) ∨ ∃ j : Nat, K[j]? = some x ∧ V[j]? = some v) := by
 by_cases hx : x ∈ K
 ·obtain ⟨j, hj⟩ := List.getElem?_of_mem hx
  have hjl : j < V.length := by rw [h.map.len]; exact (List.getElem?_eq_some_iff.1 hj).1
  obtain ⟨v, hv⟩ : ∃ v, V[j]? = some v := ⟨_, List.getElem?_eq_getElem hjl⟩
  refine ⟨v, fun W hW => ?_, h.rows j x v hj hv, .inr ⟨j, hj, hv⟩⟩
  rcases (h.map.kept hW (by simp)).look Tryz.underlying103 Tryz.zeroInts8 x false with ⟨g1, _⟩ | ⟨j2, v2, g1, g2, g3⟩
  ·exact absurd hx g1
  ·have e : j2 = j := by
    have hn := h.map.nodup
    obtain ⟨l1, e1⟩ := List.getElem?_eq_some_iff.1 g1
    obtain ⟨l2, e2⟩ := List.getElem?_eq_some_iff.1 hj
    rcases Nat.lt_trichotomy j2 j with hh | hh | hh
    ·exact absurd (e1.trans e2.symm) ((List.pairwise_iff_getElem.1 hn) j2 j l1 l2 hh)
    ·exact hh
    ·exact absurd (e2.trans e1.symm) ((List.pairwise_iff_getElem.1 hn) j j2 l2 l1 hh)
   subst e
   rw [hv] at g2
   cases g2
   exact g3
 ·have he : idxs L x k = [] := Classical.byContradiction fun hne => hx (h.full x hne)
  refine ⟨.slice none 0 0, fun W hW => ?_, by rw [he]; exact World.ownsRow_nil _ _ _ _, .inl ⟨hx, rfl⟩⟩
  rcases (h.map.kept hW (by simp)).look Tryz.underlying103 Tryz.zeroInts8 x false with ⟨_, g2⟩ | ⟨j2, v2, g1, _⟩
  ·exact g2
  ·exact absurd (List.mem_of_getElem? g1) hx
theorem Fm.add {w : World} {base M : Nat} {L : List Wk} {k : Nat} {K : List Int} {V : List Value} (h : Fm w base M L k K V) (hk : k ≤ 1000000) (hbm : base ≤ w.heap.size) {v : Value} (hv : w.ownsRow base 3 1 v (idxs L (L.getD k wk0).sum k).length (ivs (idxs L (L.getD k wk0).sum k)))
  (hw : ((L.getD k wk0).sum ∉ K ∧ v = .slice none 0 0) ∨ ∃ j : Nat, K[j]? = some (L.getD k wk0).sum ∧ V[j]? = some v) (W : World) (hW : Kept [] w W) (N : Nat) (hN : W.cell? ⟨N, 0, none⟩ = some (.int .i64 k)) :
  ∃ v' W2 W3, (Builtin.append_ #[144, 144] 144 #[v, .slice (some ⟨N, 0, none⟩) 1 1]).run Tryz.prog W = .ok v' W2 ∧ (Instr.mapUpdate 103 (.map (some M)) (.int .i64 (L.getD k wk0).sum) v').run Tryz.prog W2 = .ok () W3 ∧ (∃ K' V', Fm W3 base M L (k + 1) K' V') ∧ Kept v.ownBlock.toList W W2 ∧ Kept [M] W2 W3 := by
 obtain ⟨x, hx⟩ : ∃ x, (L.getD k wk0).sum = x := ⟨_, rfl⟩
 rw [hx] at hv hw ⊢
 have hF := h.kept hW
 have hvW : W.ownsRow base 3 1 v (idxs L x k).length (ivs (idxs L x k)) := own_same hv (fun g hg => hW.block g (own_blk hv hg).2.1 (by simp))
 obtain ⟨i0, hi, hz0, hz1, hz2⟩ := info_parts Tryz.infoInt8
 have hlk := idxs_len L x k
 obtain ⟨v', W2, hrun, h4, h5, _, h7⟩ := run_append_own_at (P := Tryz.prog) W base 144 144 3 i0 (.int .i64 0) 1 8 Tryz.underlying144 hi hz0 hz1 hz2 rfl (by decide) v _ _ hvW ⟨N, 0, none⟩ 1 1 [.int .i64 k] rfl (by
  intro j u hu
  cases j with
  | zero => simp only [List.getElem?_cons_zero, Option.some.injEq] at hu; subst hu; rw [Addr.add_mid]; exact hN
  | succ j => simp at hu) (by simp [Value.oneCell']) (by unfold maxLen; omega) (by omega) (Nat.le_trans hbm hW.size)
 have hk2 : Kept v.ownBlock.toList W W2 := (Kept.refl _ W).grown h5 (fun g hg _ => by rw [hg]; simp)
 have hMW := hF.map.lt
 have hMv : M ∉ v.ownBlock.toList := by
  intro hm
  have hg : v.ownBlock = some M := by simpa using hm
  obtain ⟨_, _, cur, hc⟩ := own_blk hvW hg
  obtain ⟨es, clock, hb, _⟩ := hF.map
  rw [hb] at hc
  cases hc
 have hF2 : Ik W2 M K V := hF.map.kept hk2 hMv
 obtain ⟨W3, hup, hk3, hs3, hcase⟩ := hF2.put Tryz.underlying103 x v'
 have hv3 : ∀ g, v'.ownBlock = some g → g ≠ M := fun g hg e => by
  subst e
  obtain ⟨_, _, cur, hc⟩ := own_blk h4 hg
  obtain ⟨es, clock, hb, _⟩ := hF2
  rw [hb] at hc
  cases hc
 have own' : W3.ownsRow base 3 1 v' (idxs L x (k + 1)).length (ivs (idxs L x (k + 1))) := by
  rw [idxs_succ, if_pos hx, List.length_append, ivs_snoc]
  exact own_same h4 (fun g hg => hk3.block g (own_blk h4 hg).2.1 (by simpa using hv3 g hg))
 have hother : ∀ y, y ≠ x → idxs L y (k + 1) = idxs L y k := fun y hy => by rw [idxs_succ, if_neg (by rw [hx]; exact fun e => hy e.symm)]
 have keep : ∀ (j : Nat) y u, K[j]? = some y → V[j]? = some u → y ≠ x → (∀ g, u.ownBlock = some g → v.ownBlock ≠ some g) → W3.ownsRow base 3 1 u (idxs L y (k + 1)).length (ivs (idxs L y (k + 1))) := fun j y u h1 h2 hy ha => by
  have ho := hF.rows j y u h1 h2
  rw [hother y hy]
  refine own_same ho (fun g hg => ?_)
  have hgl := (own_blk ho hg).2.1
  rw [hk3.block g (Nat.lt_of_lt_of_le hgl hk2.size) ?_, hk2.block g hgl ?_]
  ·intro hm
   exact ha g hg (by simpa using hm)
  ·intro hm
   have : g = M := by simpa using hm
   subst this
   obtain ⟨_, _, cur, hc⟩ := own_blk ho hg
   obtain ⟨es, clock, hb, _⟩ := hF.map
   rw [hb] at hc
   cases hc
 refine ⟨v', W2, W3, hrun, hup, ?_, hk2, hk3⟩
 rcases hcase with ⟨hn, hI⟩ | ⟨j0, hj0, hI⟩
 ·rcases hw with ⟨_, hv0⟩ | ⟨j, hj, _⟩
  ·subst hv0
   have hlen := hF.map.len
   have nb : ∀ g, v'.ownBlock = some g → W.heap.size ≤ g := fun g hg => by
    rcases h7 with h7 | h7
    ·rw [hg] at h7; simp [Value.ownBlock] at h7
    ·rw [hg] at h7; cases h7; exact Nat.le_refl _
   refine ⟨K ++ [x], V ++ [v'], hI, ?_, ?_, ?_⟩
   ·intro j y u h1 h2
    by_cases hj : j < K.length
    ·rw [List.getElem?_append_left hj] at h1
     rw [List.getElem?_append_left (by omega)] at h2
     refine keep j y u h1 h2 (fun e => hn (by rw [← e]; exact List.mem_of_getElem? h1)) (fun g _ => by simp [Value.ownBlock])
    ·have hjl := (List.getElem?_eq_some_iff.1 h1).1
     rw [List.length_append, List.length_singleton] at hjl
     have e : j = K.length := by omega
     subst e
     rw [List.getElem?_append_right (Nat.le_refl _), Nat.sub_self] at h1
     rw [List.getElem?_append_right (by omega), hlen, Nat.sub_self] at h2
     simp only [List.getElem?_cons_zero, Option.some.injEq] at h1 h2
     subst h1; subst h2
     exact own'
   ·intro y hy
    by_cases e : y = x
    ·simp [e]
    ·rw [hother y e] at hy
     simp [hF.full y hy]
   ·intro i j u u' g hij h1 h2 hg
    have gl : ∀ (q : Nat) z, V[q]? = some z → ∀ g, z.ownBlock = some g → g < W.heap.size := fun q z hz g hg => by
     have hql : q < K.length := by rw [← hlen]; exact (List.getElem?_eq_some_iff.1 hz).1
     exact (own_blk (hF.rows q K[q] z (List.getElem?_eq_getElem hql) hz) hg).2.1
    have cs : ∀ (q : Nat) z, (V ++ [v'])[q]? = some z → V[q]? = some z ∨ (q = V.length ∧ z = v') := fun q z hz => by
     by_cases hq : q < V.length
     ·rw [List.getElem?_append_left hq] at hz; exact .inl hz
     ·have hql := (List.getElem?_eq_some_iff.1 hz).1
      rw [List.length_append, List.length_singleton] at hql
      have e : q = V.length := by omega
      subst e
      rw [List.getElem?_append_right (Nat.le_refl _), Nat.sub_self] at hz
      simp only [List.getElem?_cons_zero, Option.some.injEq] at hz
      exact .inr ⟨rfl, hz.symm⟩
    rcases cs i u h1 with p1 | ⟨rfl, rfl⟩
    ·rcases cs j u' h2 with p2 | ⟨rfl, rfl⟩
     ·exact hF.apart i j u u' g hij p1 p2 hg
     ·intro e
      have := gl i u p1 g hg
      have := nb g e
      omega
    ·rcases cs j u' h2 with p2 | ⟨rfl, rfl⟩
     ·intro e
      have := gl j u' p2 g e
      have := nb g hg
      omega
     ·exact absurd rfl hij
  ·exact absurd (List.mem_of_getElem? hj) hn
 ·rcases hw with ⟨hn, _⟩ | ⟨j, hj, hvj⟩
  ·exact absurd (List.mem_of_getElem? hj0) hn
  ·have e : j0 = j := by
    have hn := hF.map.nodup
    obtain ⟨l1, e1⟩ := List.getElem?_eq_some_iff.1 hj0
    obtain ⟨l2, e2⟩ := List.getElem?_eq_some_iff.1 hj
    rcases Nat.lt_trichotomy j0 j with hh | hh | hh
    ·exact absurd (e1.trans e2.symm) ((List.pairwise_iff_getElem.1 hn) j0 j l1 l2 hh)
    ·exact hh
    ·exact absurd (e2.trans e1.symm) ((List.pairwise_iff_getElem.1 hn) j j0 l2 l1 hh)
   subst e
   have hjV : j0 < V.length := (List.getElem?_eq_some_iff.1 hvj).1
   have loc : ∀ g, v'.ownBlock = some g → v.ownBlock = some g ∨ W.heap.size ≤ g := fun g hg => by
    rcases h7 with h7 | h7
    ·exact .inl (by rw [← h7]; exact hg)
    ·rw [hg] at h7; cases h7; exact .inr (Nat.le_refl _)
   have hlen := hF.map.len
   have gl : ∀ (q : Nat) z, V[q]? = some z → ∀ g, z.ownBlock = some g → g < W.heap.size := fun q z hz g hg => by
    have hql : q < K.length := by rw [← hlen]; exact (List.getElem?_eq_some_iff.1 hz).1
    exact (own_blk (hF.rows q K[q] z (List.getElem?_eq_getElem hql) hz) hg).2.1
   refine ⟨K, V.set j0 v', hI, ?_, ?_, ?_⟩
   ·intro q y u h1 h2
    by_cases hq : j0 = q
    ·subst hq
     rw [List.getElem?_set_self hjV] at h2
     cases h2
     rw [hj0] at h1
     cases h1
     exact own'
    ·rw [List.getElem?_set_ne hq] at h2
     refine keep q y u h1 h2 (fun e => ?_) (fun g hg => hF.apart q j0 u v g (fun e => hq e.symm) h2 hvj hg)
     subst e
     obtain ⟨l1, e1⟩ := List.getElem?_eq_some_iff.1 h1
     obtain ⟨l2, e2⟩ := List.getElem?_eq_some_iff.1 hj0
     have hn := hF.map.nodup
     rcases Nat.lt_trichotomy q j0 with hh | hh | hh
     ·exact absurd (e1.trans e2.symm) ((List.pairwise_iff_getElem.1 hn) q j0 l1 l2 hh)
     ·exact hq hh.symm
     ·exact absurd (e2.trans e1.symm) ((List.pairwise_iff_getElem.1 hn) j0 q l2 l1 hh)
   ·intro y hy
    by_cases e : y = x
    ·rw [e]; exact List.mem_of_getElem? hj0
    ·rw [hother y e] at hy
     exact hF.full y hy
   ·intro i q u u' g hiq h1 h2 hg
    by_cases hi : j0 = i
    ·subst hi
     rw [List.getElem?_set_self hjV] at h1
     cases h1
     rw [List.getElem?_set_ne hiq] at h2
     intro e
     rcases loc g hg with h | h
     ·exact hF.apart q j0 u' v g (fun e => hiq e.symm) h2 hvj e h
     ·have := gl q u' h2 g e; omega
    ·rw [List.getElem?_set_ne hi] at h1
     by_cases hq : j0 = q
     ·subst hq
      rw [List.getElem?_set_self hjV] at h2
      cases h2
      intro e
      rcases loc g e with h | h
      ·exact hF.apart i j0 u v g (fun e => hi e.symm) h1 hvj hg h
      ·have := gl i u h1 g hg; omega
     ·rw [List.getElem?_set_ne hq] at h2
      exact hF.apart i q u u' g hiq h1 h2 hg
end

end Go.Proofs.YtmklodligplbaaaGreat
