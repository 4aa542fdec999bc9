import Derived.Test.YtmklodligplbaaaGreatD9qm
open Go.RowKit
set_option linter.unusedVariables false
set_option linter.unusedSimpArgs false
set_option maxRecDepth 100000
set_option maxHeartbeats 51200000
namespace Go.Proofs.YtmklodligplbaaaGreat
open Dlt
namespace Dlt
theorem stText_len (xs : List UInt8) (s : Rs) : (stText xs s 131072).1.length <= 131072 := by
 unfold stText
 split
 ·split
  ·simp
  ·split
   ·split
    ·simp
    ·rename_i h
     split
     ·simp
     ·simp only [List.length_take]; omega
   ·simp
 ·simp
theorem rdI_len {xs : List UInt8} {n z : Nat} {s : Rs} {p : Stp × Rs} (h : rdI xs n s = some p) (hn : n * z <= 131072) : p.1.len z <= 131072 := by
 unfold rdI at h
 split at h
 ·split at h
  ·cases h
  ·rename_i hf
   split at h
   ·cases h
   ·rename_i hc
    rw [Bool.not_eq_false, within_iff] at hf hc
    injection h with h; subst h
    show (stNumber xs (stNumber xs (stFixed xs s 1).2).2).1.toNat * z <= 131072
    exact Nat.le_trans (Nat.mul_le_mul_right z (by omega)) hn
 ·split at h
  ·split at h
   ·cases h
   ·injection h with h; subst h
    exact stText_len _ _
  ·cases h
theorem rdIs_none {xs : List UInt8} {n : Nat} {s : Rs} {k : Nat} (h : rdIs xs n s k = none) : ∀ m, rdIs xs n s (k + m) = none
 | 0 => h
 | m + 1 => by
  show (rdIs xs n s (k + m)).bind _ = none
  rw [rdIs_none h m]; rfl
theorem rdIs_next {xs : List UInt8} {n : Nat} {s : Rs} {k : Nat} {p : List Stp × Rs} (h : rdIs xs n s k = some p) : rdIs xs n s (k + 1) = (rdI xs n p.2).map fun q => (p.1 ++ [q.1], q.2) := by
 show (rdIs xs n s k).bind _ = _
 rw [h, Option.bind_some]
structure Hd (xs : List UInt8) : Prop where
 len : xs.length <= 131072
 mark : mk xs = 68
 w : isW (nW xs) = true
 z : isZ (nZ xs) = true
 l : within (nL xs) 0 131072 = true
 t : within (nT xs) 0 131072 = true
theorem Hd.ok {xs : List UInt8} (h : Hd xs) : headOk xs = within (nI xs) 0 2048 := by
 unfold headOk
 rw [decide_eq_true h.len, decide_eq_true h.mark, h.w, h.z, h.l, h.t]
 simp
theorem Hd.dN {xs : List UInt8} (h : Hd xs) (hN : within (nI xs) 0 2048 = false) : decD xs = none := by
 unfold decD; rw [h.ok, hN, if_pos rfl]
theorem Hd.dI {xs : List UInt8} (h : Hd xs) (hN : within (nI xs) 0 2048 = true) {k : Nat} (hk : k < (nI xs).toNat) {p : List Stp × Rs} (hp : rdIs xs (cntB xs) (s7 xs) k = some p) (hi : rdI xs (cntB xs) p.2 = none) : decD xs = none := by
 have h1 : rdIs xs (cntB xs) (s7 xs) (k + 1) = none := by rw [rdIs_next hp, hi]; rfl
 have h2 := rdIs_none h1 ((nI xs).toNat - (k + 1))
 rw [show k + 1 + ((nI xs).toNat - (k + 1)) = (nI xs).toNat by omega] at h2
 unfold decD; rw [h.ok, hN, if_neg (by simp), h2]
theorem Hd.dE {xs : List UInt8} (h : Hd xs) (hN : within (nI xs) 0 2048 = true) {p : List Stp × Rs} (hp : rdIs xs (cntB xs) (s7 xs) (nI xs).toNat = some p) (he : (decide ((total (nZ xs).toNat p.1 : Int) = nT xs) && endOk xs p.2) = false) : decD xs = none := by
 unfold decD; rw [h.ok, hN, if_neg (by simp), hp]
 simp only
 rw [he, if_pos rfl]
theorem Hd.dY {xs : List UInt8} (h : Hd xs) (hN : within (nI xs) 0 2048 = true) {p : List Stp × Rs} (hp : rdIs xs (cntB xs) (s7 xs) (nI xs).toNat = some p) (he : (decide ((total (nZ xs).toNat p.1 : Int) = nT xs) && endOk xs p.2) = true) :
  decD xs = some ⟨(nW xs).toNat, (nZ xs).toNat, (nL xs).toNat, idB xs, (nT xs).toNat, idT xs, p.1, pad_len _, pad_len _⟩ := by
 unfold decD; rw [h.ok, hN, if_neg (by simp), hp]
 simp only
 rw [he, if_neg (by simp)]
end Dlt
theorem StpN.kept {l : List Nat} {w w' : World} {base : Nat} {s : Stp} {v : Value} (h : StpN base w s v) (hk : Kept l w w') (hl : ∀ i, i ∈ l -> i < base) : StpN base w' s v := by
 cases s with
 | copy f c => exact h
 | lit bs =>
  obtain ⟨ao, n, cap, e, h1, h2, h3, h4⟩ := h
  exact ⟨ao, n, cap, e, h1, h2, h3.kept hk (fun _ a ha hm => by have := hl _ hm; have := h4 a ha; omega), h4⟩
theorem StpN.mono {w : World} {base base' : Nat} {s : Stp} {v : Value} (h : StpN base w s v) (hb : base' <= base) : StpN base' w s v := by
 cases s with
 | copy f c => exact h
 | lit bs =>
  obtain ⟨ao, n, cap, e, h1, h2, h3, h4⟩ := h
  exact ⟨ao, n, cap, e, h1, h2, h3, fun a ha => Nat.le_trans hb (h4 a ha)⟩
theorem StpN.v {w : World} {base : Nat} {s : Stp} {v : Value} (h : StpN base w s v) : StpV w s v := by
 cases s with
 | copy f c => exact h
 | lit bs =>
  obtain ⟨ao, n, cap, e, h1, h2, h3, h4⟩ := h
  exact ⟨ao, n, cap, e, h1, h2, h3⟩
theorem Tryz.methRun (x : Array Value) (w : World) : (Go.method 298 112 (.agg x) "freight/delta.length").run Tryz.prog w = .ok (66, .agg x) w := by kernel_rfl
theorem Tryz.nilaRun (x : Array Value) (w : World) : (nilAhead 298 112 (.agg x) "freight/delta.length").run Tryz.prog w = .ok (some false) w := by kernel_rfl
theorem Tryz.methLit (ao : Option Addr) (n c : Nat) (w : World) : (Go.method 298 109 (.slice ao n c) "freight/delta.length").run Tryz.prog w = .ok (145, .slice ao n c) w := by kernel_rfl
theorem Tryz.nilaLit (ao : Option Addr) (n c : Nat) (w : World) : (nilAhead 298 109 (.slice ao n c) "freight/delta.length").run Tryz.prog w = .ok (some false) w := by kernel_rfl
theorem Tryz.enterRun (args : Array Value) (w : World) : (callFunc 66 args).run Tryz.prog w = .ok (.enter 66 args) w := by kernel_rfl
theorem Tryz.enterLit (args : Array Value) (w : World) : (callFunc 145 args).run Tryz.prog w = .ok (.enter 145 args) w := by kernel_rfl
theorem StpN.meth {w : World} {base : Nat} {s : Stp} {u : Value} (h : StpN base w s u) (z : Nat) (hz : s.len z <= 131072) : ∃ T sv fn, u = .iface T sv ∧ (∀ W, (Go.method 298 T sv "freight/delta.length").run Tryz.prog W = .ok (fn, sv) W) ∧ (∀ W, (nilAhead 298 T sv "freight/delta.length").run Tryz.prog W = .ok (some false) W) ∧ (∀ args W, (callFunc fn args).run Tryz.prog W = .ok (.enter fn args) W) ∧ ∀ W, Calls Tryz.prog fn #[sv, .int .i64 z] W fun e w' => e = .returned (.int .i64 (s.len z : Nat)) ∧ Kept [] W w' := by
 cases s with
 | copy f c =>
  exact ⟨_, _, _, h, Tryz.methRun _, Tryz.nilaRun _, Tryz.enterRun, fun W => runLength_ok f c z W (Nat.le_trans hz (by decide))⟩
 | lit bs =>
  obtain ⟨ao, n, cap, e, h1, h2, h3, h4⟩ := h
  refine ⟨_, _, _, e, Tryz.methLit _ _ _, Tryz.nilaLit _ _ _, Tryz.enterLit, fun W => (litLength_ok ao n cap z W).mono fun e w' he => ?_⟩
  obtain ⟨rfl, rfl⟩ := he
  exact ⟨by rw [<-h1]; rfl, Kept.refl [] _⟩
theorem Tryz.infoOrd (W Z : Int) (bk tk : Wk) (v : Value) : (Tryz.prog.info? 71).map (·.size) = some (ordC W Z bk tk v).length := by rw [ordC_len]; exact Tryz.infoOrdS
theorem Tryz.infoOrdA (W Z : Int) (bk tk : Wk) (v : Value) : (Tryz.prog.info? 71).map (·.size) = some (ordC W Z bk tk v).toArray.size := by rw [ordC_size]; exact Tryz.infoOrdS
theorem ordC_one (W Z : Int) (bk tk : Wk) (v : Value) (hv : v.oneCell' = true) : (ordC W Z bk tk v).toArray.all (·.oneCell') = true := by
 have h1 : bk.cells.all (·.oneCell') = true := List.all_eq_true.2 (wk_one bk)
 have h2 : tk.cells.all (·.oneCell') = true := List.all_eq_true.2 (wk_one tk)
 simp only [List.all_toArray]
 simp only [ordC, List.all_cons, List.all_append, h1, h2, hv, List.all_nil]
 rfl
theorem OrdAt.range {w : World} {G : Nat} {W Z : Int} {bk tk : Wk} {v : Value} (h : OrdAt w G W Z bk tk v) : w.rangeAt G 0 (ordC W Z bk tk v) := fun j u hu => by rw [Nat.zero_add]; exact h.c hu
def OrdPost (xs : List UInt8) (e : Ending) (w' : World) : Prop :=
 match decD xs with
 | none => e = gaveUp8
 | some d => ∃ gL vals bk tk, e = .returned (.agg (ordC d.width d.size bk tk (.slice (some ⟨gL, 0, none⟩) d.steps.length d.steps.length)).toArray) ∧ bk.sum = (d.blen : Nat) ∧ bk.id = d.bid ∧ tk.sum = (d.tlen : Nat) ∧ tk.id = d.tid ∧ Lst w' gL d.steps.length vals ∧ vals.length = d.steps.length ∧ ∀ (i : Nat) s u, d.steps[i]? = some s -> vals[i]? = some u -> StpV w' s u
theorem OrdPost.none {xs : List UInt8} {w' : World} (h : decD xs = none) : OrdPost xs gaveUp8 w' := by
 unfold OrdPost; rw [h]
end Go.Proofs.YtmklodligplbaaaGreat
