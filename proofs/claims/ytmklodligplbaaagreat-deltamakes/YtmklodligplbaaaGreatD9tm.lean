import Derived.Test.YtmklodligplbaaaGreatD9sm
open Go.RowKit
set_option linter.unusedVariables false
set_option linter.unusedSimpArgs false
set_option maxRecDepth 100000
set_option maxHeartbeats 51200000
namespace Go.Proofs.YtmklodligplbaaaGreat
open Dlt
theorem own_sl9 {w : World} {base : Nat} {ao : Option Addr} {n cap : Nat} {xs : List UInt8} (h : w.ownsRow base 5 1 (.slice ao n cap) n (bys xs)) : Sl w ao xs := by
 have hl : xs.length = n := by have := h.1; rw [bys_length] at this; omega
 rcases h.2 with ⟨e, hn⟩ | ⟨g, cap', cur, e, hb, hrow, hn, _, hsz, ht⟩
 ·intro i hi; omega
 ·cases e
  refine Sl.of fun i hi => ?_
  rw [cell_of_row _ _ _ _ _ _ hrow, Nat.zero_add]
  have h2 : (bys xs)[i]? = some (.int .u8 (xs.getD i 0).toNat) := by rw [<-bys_at hi]
  rw [<-ht, List.getElem?_take_of_lt (by omega)] at h2
  simpa using h2
theorem readOrd_ok (ao : Option Addr) (n cap : Nat) (xs : List UInt8) (w : World) (h : InB8 w ao n cap xs) :
  Calls Tryz.prog 41 #[.slice ao n cap] w fun e w' => OrdPost xs e w' ∧ Kept [] w w' := by
 have none_of : headOk xs = false -> decD xs = none := fun hh => by unfold decD; rw [hh, if_pos rfl]
 have fin : decD xs = none -> ∀ e w', e = gaveUp8 ∧ Kept [] w w' -> OrdPost xs e w' ∧ Kept [] w w' := fun hd e w' he => ⟨by rw [he.1]; exact OrdPost.none hd, he.2⟩
 by_cases h1 : 131072 < n
 ·exact (readOrd_long ao n cap w h1).mono (fin (none_of (by unfold headOk; rw [decide_eq_false (by rw [h.len]; omega)]; rfl)))
 ·have hm : n <= 131072 := by omega
  by_cases h2 : mk xs = 68
  ·cases h3 : isW (nW xs) with
   | false => exact (readOrd_width ao n cap xs w h.len h.le hm h.sl h.nil h2 h3).mono (fin (none_of (by unfold headOk; rw [h3]; simp)))
   | true =>
    cases h4 : isZ (nZ xs) with
    | false => exact (readOrd_size ao n cap xs w h.len h.le hm h.sl h.nil h2 h3 h4).mono (fin (none_of (by unfold headOk; rw [h4]; simp)))
    | true =>
     cases h5 : Dlt.within (nL xs) 0 131072 with
     | false => exact (readOrd_base ao n cap xs w h.len h.le hm h.sl h.nil h2 h3 h4 h5).mono (fin (none_of (by unfold headOk; rw [h5]; simp)))
     | true =>
      cases h6 : Dlt.within (nT xs) 0 131072 with
      | false => exact (readOrd_targ ao n cap xs w h.len h.le hm h.sl h.nil h2 h3 h4 h5 h6).mono (fin (none_of (by unfold headOk; rw [h6]; simp)))
      | true => exact readOrd_rest ao n cap xs w h.len h.le hm h.sl h.nil h2 h3 h4 h5 h6
  ·exact (readOrd_mark ao n cap xs w h.len hm h.sl h.nil h2).mono (fin (none_of (by unfold headOk; rw [decide_eq_false h2]; simp)))
theorem acatch_panicking (p q : Nat) (n : Int) (pv0 : Value) (u : TypeId) (pv : Value) (older : List PanicEntry) (w : World) (hc1 : w.cell? ⟨p, 0, none⟩ = some pv0) (hz1 : w.frozen? ⟨p, 0, none⟩ = false) (hc2 : w.cell? ⟨q, 0, none⟩ = some (.int .i64 n)) (hz2 : w.frozen? ⟨q, 0, none⟩ = false) (hpq : p ≠ q) :
  CallsD Tryz.prog 40 #[.pointer (some ⟨p, 0, none⟩), .pointer (some ⟨q, 0, none⟩)] (.panicking ({ v := .iface u pv, recovered := false } :: older)) w fun e u' w' =>
   e = .returned (.tuple #[]) ∧ u' = .panicking ({ v := .iface u pv, recovered := true } :: older) ∧ w' = (w.setCell ⟨p, 0, none⟩ (.slice none 0 0)).setCell ⟨q, 0, none⟩ (.int .i64 180) := by
 have hk : Kept [p] w (w.setCell ⟨p, 0, none⟩ (.slice none 0 0)) := (Kept.refl [p] w).setCell (by simp) _
 have h3 : (w.setCell ⟨p, 0, none⟩ (.slice none 0 0)).cell? ⟨q, 0, none⟩ = some (.int .i64 n) := hk.cellOf hc2 (by simp; omega)
 have h4 : (w.setCell ⟨p, 0, none⟩ (.slice none 0 0)).frozen? ⟨q, 0, none⟩ = false := (hk.frozen (World.block_lt_of_cell? _ _ hc2) (by simp; omega)).trans hz2
 refine callsD_of_wpS Tryz.func40 rfl fun c₀ cs hu => ?_
 apply wpS_seq
 apply wpS_region
 simp [wpOpsS, go_sem, recoverD, hu, Tryz.ntmps40, Exit.thenS]
 refine wpS_cond (t := true) (by simp [Act.eval, Array.replicate]) ?_
 simp only [if_true]
 have e0 : (#[Value.pointer (some ⟨p, 0, none⟩), Value.pointer (some ⟨q, 0, none⟩)] ++ ((Array.replicate 2 undef).setIfInBounds 0 (Value.iface u pv)).setIfInBounds 1 (Value.bool true)) = #[Value.pointer (some ⟨p, 0, none⟩), Value.pointer (some ⟨q, 0, none⟩), Value.iface u pv, Value.bool true] := rfl
 rw [e0]
 refine wpS_of_wp ?_
 go_wp2
 simp [bodyPostS, results, Tryz.results40]
theorem acatch_idle (p q : Nat) (w : World) :
  CallsD Tryz.prog 40 #[.pointer (some ⟨p, 0, none⟩), .pointer (some ⟨q, 0, none⟩)] .returning w fun e u' w' => e = .returned (.tuple #[]) ∧ u' = .returning ∧ w' = w := by
 refine callsD_of_wpS Tryz.func40 rfl fun c₀ cs hu => ?_
 apply wpS_seq
 apply wpS_region
 simp [wpOpsS, go_sem, recoverD, hu, Tryz.ntmps40, Exit.thenS]
 refine wpS_cond (t := false) (by simp [Act.eval, Array.replicate]) ?_
 simp only [Bool.false_eq_true, if_false]
 refine wpS_of_wp (wp_skip ?_)
 cases c₀
 simp_all [bodyPostS, results, Tryz.results40]
theorem app_results {w : World} {A B : Nat} {v : Value} {n : Int} {tmps : Array Value} (hA : w.cell? ⟨A, 0, none⟩ = some v) (hB : w.cell? ⟨B, 0, none⟩ = some (.int .i64 n)) (h2 : tmps[4]?.getD undef = .pointer (some ⟨A, 0, none⟩)) (h3 : tmps[5]?.getD undef = .pointer (some ⟨B, 0, none⟩)) :
  (results Tryz.f18 tmps).run Tryz.prog w = .ok (.tuple #[v, .int .i64 n]) w := by
 have hl1 : (loadVar 22 ⟨A, 0, none⟩).run Tryz.prog w = .ok v w := by simp [go_sem, hA]
 have hl2 : (loadVar 30 ⟨B, 0, none⟩).run Tryz.prog w = .ok (.int .i64 n) w := by simp [go_sem, hB]
 simp [results, Tryz.results18, h2, h3, asAddr, hl1, hl2]
theorem leaves_congr9 {P : Program} {fn : Func} {t1 t2 : Array Value} {R : Ending -> World -> Prop} (h : results fn t1 = results fn t2) : ∀ (ds : List Deferred) (u : FrameMode) (w : World), Leaves P fn t1 R ds u w -> Leaves P fn t2 R ds u w
 | [], .returning, w, ⟨v, h1, h2⟩ => ⟨v, h ▸ h1, h2⟩
 | [], .panicking _, _, h1 => h1
 | [], .run, _, h1 => h1
 | d :: ds, u, w, ⟨h1, fv, cap, f, args, h2, h3, h4⟩ => ⟨h1, fv, cap, f, args, h2, h3, h4.mono (fun e u' w' he => by
   cases e with
   | returned _ => exact leaves_congr9 h ds _ _ he
   | panicked _ => exact leaves_congr9 h ds _ _ he
   | outgrown => exact he)⟩
theorem appRes (t : Array Value) (k : Nat) (v : Value) (hk : k ≠ 4) (hk5 : k ≠ 5) : results Tryz.f18 (t.setIfInBounds k v) = results Tryz.f18 t := by
 have e : ∀ j, k ≠ j -> (t.setIfInBounds k v)[j]?.getD undef = t[j]?.getD undef := fun j hj => by rw [Array.getElem?_setIfInBounds_ne hj]
 simp only [results, Tryz.results18]
 simp [e 4 hk, e 5 hk5]
theorem appQ (R : Ending -> World -> Prop) (k : Nat) (v : Value) (hk : k ≠ 4) (hk5 : k ≠ 5) (ch : List PanicEntry) (a : Act) (w : World) (h : bodyPostD Tryz.prog Tryz.f18 R (.panic ch) (a.put (some k) v) w) : bodyPostD Tryz.prog Tryz.f18 R (.panic ch) a w :=
 leaves_congr9 (appRes a.tmps k v hk hk5) a.defers _ w h
end Go.Proofs.YtmklodligplbaaaGreat
